/- Joined of the texts ModesX, ModesZ, ModesAC. -/
import Derived.Test.YtlendfhehhacpaaGreatP35
import Derived.Test.YtlendfhehhacpaaGreatP11
import Derived.Laws.BytesArg
import Derived.Test.YtlendfhehhacpaaGreatP41
import Derived.Test.YtlendfhehhacpaaGreatP36
set_option linter.unusedVariables false
set_option linter.unusedSimpArgs false
set_option maxRecDepth 100000
set_option maxHeartbeats 8000000
namespace Go.Proofs.YtlendfhehhacpaaGreat
open Go.RowKit
theorem bTake_normal_moreB (b r d : Nat) (tv : Value) (dg : ByteArray) (p : Pg) (key : Int) (A B : World → Prop) (T : List Nat) (w : World) (hb : BdAt w b r d tv dg) (hA : A w) (fA : Firm A) (fB : Firm B) (hr : HasR A r d p) (hm : p.mode = 0) (hk : ¬ key = 27)
    (HC : GivesB 137 #[.agg #[.pointer (some ⟨r, 0, none⟩)], .int .u8 key] A B 0 T) :
    Calls Tryz.prog 46 #[.pointer (some ⟨b, 0, none⟩), .int .u8 key] w fun e w' => e = .returned (.int .i64 0) ∧ B w' ∧ Upd T w w' := by
  have HO : Hid (∀ ww, BdAt ww b r d tv dg → RdAt ww r d p → Calls Tryz.prog 64 #[.pointer (some ⟨b, 0, none⟩)] ww fun e w' => e = .returned (.iface 77 (.agg #[.pointer (some ⟨r, 0, none⟩)])) ∧ Below ww.heap.size ww w') := fun ww h1 h2 => mOn_normal b r d tv dg p ww h1 h2 hm
  have H := hr w hA
  have hk' : (key == 27) = false := by simp [hk]
  have hmt := meth_normal_take ⟨r, 0, none⟩
  clear hm hk
  go_enter Tryz.func46, Tryz.ntmps46
  go_wp2_with fail
  refine Calls.mono (HO.out _ hb H) ?_
  rintro e w1 ⟨rfl, h1⟩
  go_wp2_with fail
  refine Calls.mono (HC.out _ (fA _ _ hA (by (repeat (with_reducible first | exact Below.refl _ _ | refine b_s ?_ _ | refine b_a ?_ _ | refine Below.drew ?_ | refine below_drewN ?_ _ | refine b_t ?_ h1))))) ?_
  rintro e w2 ⟨rfl, h2, u2⟩
  go_wp2
  go_ret
  refine ⟨rfl, ?_, ?_⟩
  · exact (fB _ _ h2 (by (repeat (with_reducible first | exact Below.refl _ _ | refine b_s ?_ _ | refine b_a ?_ _ | refine Below.drew ?_ | refine below_drewN ?_ _))))
  · repeat (with_reducible first | exact Upd.refl _ _ | refine u_s ?_ _ | refine Upd.alloc ?_ _ | refine Upd.drewN ?_ _ | refine Upd.drew ?_ | refine Upd.trans ?_ (Upd.mono u2 (by simp)) | refine Upd.below ?_ h1)
theorem bTake_normal_doneB (b r d : Nat) (tv : Value) (dg : ByteArray) (p : Pg) (key O : Int) (C : World → Prop) (A B : World → Prop) (T : List Nat) (w : World) (hb : BdAt w b r d tv dg) (hA : A w) (fA : Firm A) (fB : Firm B) (hr : HasR A r d p) (hm : p.mode = 0) (hk : ¬ key = 27) (hbT : b ∉ T) (hO0 : ¬ O = 0) (hO3 : ¬ O = 3) (fC : Firm C) (hBr : ∀ ww, B ww → ∃ p2, RdAt ww r d p2)
    (HF : Hid (∀ ww, B ww → Calls Tryz.prog 65 #[.pointer (some ⟨r, 1, none⟩)] ww fun e w' => e = .returned (.tuple #[]) ∧ C w' ∧ Upd [r] ww w'))
    (HC : GivesB 137 #[.agg #[.pointer (some ⟨r, 0, none⟩)], .int .u8 key] A B O T) :
    Calls Tryz.prog 46 #[.pointer (some ⟨b, 0, none⟩), .int .u8 key] w fun e w' => e = .returned (.int .i64 O) ∧ C w' ∧ Upd (r :: T) w w' := by
  have HO : Hid (∀ ww, BdAt ww b r d tv dg → RdAt ww r d p → Calls Tryz.prog 64 #[.pointer (some ⟨b, 0, none⟩)] ww fun e w' => e = .returned (.iface 77 (.agg #[.pointer (some ⟨r, 0, none⟩)])) ∧ Below ww.heap.size ww w') := fun ww h1 h2 => mOn_normal b r d tv dg p ww h1 h2 hm
  have H := hr w hA
  have hk' : (key == 27) = false := by simp [hk]
  have hO0' : (O == 0) = false := by simp [hO0]
  have hO3' : (O == 3) = false := by simp [hO3]
  have hmt := meth_normal_take ⟨r, 0, none⟩
  clear hm hk hO0 hO3
  go_enter Tryz.func46, Tryz.ntmps46
  go_wp2_with fail
  refine Calls.mono (HO.out _ hb H) ?_
  rintro e w1 ⟨rfl, h1⟩
  go_wp2_with fail
  refine Calls.mono (HC.out _ (fA _ _ hA (by (repeat (with_reducible first | exact Below.refl _ _ | refine b_s ?_ _ | refine b_a ?_ _ | refine Below.drew ?_ | refine below_drewN ?_ _ | refine b_t ?_ h1))))) ?_
  rintro e w2 ⟨rfl, h2, u2⟩
  have B2 := (hb.below h1).upd u2 hbT
  have e0 := B2.c0
  obtain ⟨p2, R2⟩ := hBr w2 h2
  have g0 := R2.bg.c0
  have gl := R2.bg.lt
  go_wp2_with fail
  refine Calls.mono (HF.out _ (fB _ _ h2 (by (repeat (with_reducible first | exact Below.refl _ _ | refine b_s ?_ _ | refine b_a ?_ _ | refine Below.drew ?_ | refine below_drewN ?_ _))))) ?_
  rintro e w3 ⟨rfl, h3, u3⟩
  go_wp2
  go_ret
  refine ⟨rfl, ?_, ?_⟩
  · exact (fC _ _ h3 (by (repeat (with_reducible first | exact Below.refl _ _ | refine b_s ?_ _ | refine b_a ?_ _ | refine Below.drew ?_ | refine below_drewN ?_ _))))
  · refine Upd.trans (S := r :: T) ?_ (Upd.mono u3 (by simp))
    refine Upd.trans (S := r :: T) ?_ (Upd.mono u2 (by intro k hk; simp [hk]))
    exact Upd.of_below h1
theorem bTake_marking_doneB (b r d : Nat) (tv : Value) (dg : ByteArray) (p : Pg) (key O : Int) (C : World → Prop) (A B : World → Prop) (T : List Nat) (w : World) (hb : BdAt w b r d tv dg) (hA : A w) (fA : Firm A) (fB : Firm B) (hr : HasR A r d p) (hm : p.mode = 2 ∨ p.mode = 3) (hk : ¬ key = 27) (hbT : b ∉ T) (hO0 : ¬ O = 0) (hO3 : ¬ O = 3) (fC : Firm C) (hBr : ∀ ww, B ww → ∃ p2, RdAt ww r d p2)
    (HF : Hid (∀ ww, B ww → Calls Tryz.prog 65 #[.pointer (some ⟨r, 1, none⟩)] ww fun e w' => e = .returned (.tuple #[]) ∧ C w' ∧ Upd [r] ww w'))
    (HC : GivesB 309 #[.agg #[.pointer (some ⟨r, 0, none⟩)], .int .u8 key] A B O T) :
    Calls Tryz.prog 46 #[.pointer (some ⟨b, 0, none⟩), .int .u8 key] w fun e w' => e = .returned (.int .i64 O) ∧ C w' ∧ Upd (r :: T) w w' := by
  have HO : Hid (∀ ww, BdAt ww b r d tv dg → RdAt ww r d p → Calls Tryz.prog 64 #[.pointer (some ⟨b, 0, none⟩)] ww fun e w' => e = .returned (.iface 81 (.agg #[.pointer (some ⟨r, 0, none⟩)])) ∧ Below ww.heap.size ww w') := fun ww h1 h2 => mOn_marking b r d tv dg p ww h1 h2 hm
  have H := hr w hA
  have hk' : (key == 27) = false := by simp [hk]
  have hO0' : (O == 0) = false := by simp [hO0]
  have hO3' : (O == 3) = false := by simp [hO3]
  have hmt := meth_marking_take ⟨r, 0, none⟩
  clear hm hk hO0 hO3
  go_enter Tryz.func46, Tryz.ntmps46
  go_wp2_with fail
  refine Calls.mono (HO.out _ hb H) ?_
  rintro e w1 ⟨rfl, h1⟩
  go_wp2_with fail
  refine Calls.mono (HC.out _ (fA _ _ hA (by (repeat (with_reducible first | exact Below.refl _ _ | refine b_s ?_ _ | refine b_a ?_ _ | refine Below.drew ?_ | refine below_drewN ?_ _ | refine b_t ?_ h1))))) ?_
  rintro e w2 ⟨rfl, h2, u2⟩
  have B2 := (hb.below h1).upd u2 hbT
  have e0 := B2.c0
  obtain ⟨p2, R2⟩ := hBr w2 h2
  have g0 := R2.bg.c0
  have gl := R2.bg.lt
  go_wp2_with fail
  refine Calls.mono (HF.out _ (fB _ _ h2 (by (repeat (with_reducible first | exact Below.refl _ _ | refine b_s ?_ _ | refine b_a ?_ _ | refine Below.drew ?_ | refine below_drewN ?_ _))))) ?_
  rintro e w3 ⟨rfl, h3, u3⟩
  go_wp2
  go_ret
  refine ⟨rfl, ?_, ?_⟩
  · exact (fC _ _ h3 (by (repeat (with_reducible first | exact Below.refl _ _ | refine b_s ?_ _ | refine b_a ?_ _ | refine Below.drew ?_ | refine below_drewN ?_ _))))
  · refine Upd.trans (S := r :: T) ?_ (Upd.mono u3 (by simp))
    refine Upd.trans (S := r :: T) ?_ (Upd.mono u2 (by intro k hk; simp [hk]))
    exact Upd.of_below h1
abbrev TakesB (b r d : Nat) (tv : Value) (dg : ByteArray) (key : Int) (A B : World → Prop) (O : Int) (T : List Nat) : Prop :=
  Hid (∀ ww, BdAt ww b r d tv dg → A ww → Calls Tryz.prog 46 #[.pointer (some ⟨b, 0, none⟩), .int .u8 key] ww fun e w' => e = .returned (.int .i64 O) ∧ B w' ∧ Upd T ww w')
theorem press_normal_moreB (b r d : Nat) (p : Pg) (tv : Value) (n : Nat) (xs : List Value) (dg : ByteArray) (key : Int) (A B : World → Prop) (T : List Nat) (w : World) (HB : BdAt w b r d tv dg) (ho : w.ownsRow 0 5 1 tv n xs) (hA : A w) (hr : HasR A r d p) (hbT : b ∉ T) (htb : tv.ownBlock ≠ some b) (htT : ∀ k, k ∈ T → tv.ownBlock ≠ some k) (hn : n ≤ 17592186044416) (hm : p.mode = 0) (sB : ∀ u v, B u → Upd (b :: own tv) u v → B v) (HT : TakesB b r d tv dg key A B 0 T) :
    Calls Tryz.prog 38 #[.pointer (some ⟨b, 0, none⟩), .int .u8 key] w fun e w' => e = .returned (.int .i64 0) ∧ B w' ∧ ∃ tv', BdAt w' b r d tv' dg ∧ w'.ownsRow 0 5 1 tv' (n + 1) (xs ++ [.int .u8 key]) ∧ (tv'.ownBlock = tv.ownBlock ∨ ∃ g, tv'.ownBlock = some g ∧ w.heap.size ≤ g) ∧ Upd (b :: (T ++ own tv)) w w' := by
  have HK : Hid (∀ ww, BdAt ww b r d tv dg → ww.ownsRow 0 5 1 tv n xs → Calls Tryz.prog 47 #[.pointer (some ⟨b, 1, none⟩), .int .u8 key, .int .i64 0] ww fun e w' => e = .returned (.tuple #[]) ∧ ∃ tv', BdAt w' b r d tv' dg ∧ w'.ownsRow 0 5 1 tv' (n + 1) (xs ++ [.int .u8 key]) ∧ (tv'.ownBlock = tv.ownBlock ∨ ∃ g, tv'.ownBlock = some g ∧ ww.heap.size ≤ g) ∧ Upd (b :: own tv) ww w') := fun ww h1 h2 => mKeep_normal b r d tv dg key n xs ww h1 htb h2 hn
  have HR := hr w hA
  have b0 := HB.c0
  have r0 := HR.bg.c0
  have d3 := HR.dk.c3
  rw [hm] at d3
  have bl := HB.lt
  have rl := HR.bg.lt
  have dl := HR.dk.lt
  clear hn
  go_enter Tryz.func38, Tryz.ntmps38
  go_wp2_with fail
  refine Calls.mono (HT.out _ HB hA) ?_
  rintro e w1 ⟨rfl, R1, u1⟩
  have B1 := HB.upd u1 hbT
  have o1 := ownsRow_upd ho u1 htT
  go_wp2_with fail
  refine Calls.mono (HK.out _ B1 o1) ?_
  rintro e w2 ⟨rfl, tv', B2, o2, f2, u2⟩
  have hz1 := u1.size
  have F : Hid (tv'.ownBlock = tv.ownBlock ∨ ∃ g, tv'.ownBlock = some g ∧ w1.heap.size ≤ g) := f2
  clear f2
  go_wp2
  go_ret
  refine ⟨rfl, sB _ _ R1 u2, tv', B2, o2, ?_, ?_⟩
  · rcases F.out with hf | ⟨g, hg, hg2⟩
    · exact Or.inl hf
    · exact Or.inr ⟨g, hg, by omega⟩
  · exact (u1.mono (by intro k hk; simp [hk])).trans (u2.mono (by intro k hk; simp only [List.mem_cons, List.mem_append] at hk ⊢; rcases hk with hk | hk <;> simp [hk]))
theorem press_normal_doneB (b r d : Nat) (p : Pg) (tv : Value) (n : Nat) (xs : List Value) (dg : ByteArray) (key O : Int) (A B : World → Prop) (T : List Nat) (w : World) (HB : BdAt w b r d tv dg) (ho : w.ownsRow 0 5 1 tv n xs) (hA : A w) (hr : HasR A r d p) (hbT : b ∉ T) (htb : tv.ownBlock ≠ some b) (htT : ∀ k, k ∈ T → tv.ownBlock ≠ some k) (hn : n ≤ 17592186044416) (hm : p.mode = 0) (sB : ∀ u v, B u → Upd (b :: own tv) u v → B v) (fB : Firm B) (hB : ∀ ww, B ww → ∃ p2, RdAt ww r d p2 ∧ ¬ p2.mode = 1 ∧ p2.now = p2.t) (hbr : b ≠ r) (hbd : b ≠ d) (hO0 : ¬ O = 0) (hO2 : ¬ O = 2) (HT : TakesB b r d tv dg key A B O T) :
    Calls Tryz.prog 38 #[.pointer (some ⟨b, 0, none⟩), .int .u8 key] w fun e w' => e = .returned (.int .i64 O) ∧ B w' ∧ BdAt w' b r d (.slice none 0 0) dg ∧ Upd (b :: (T ++ own tv)) w w' := by
  have HK : Hid (∀ ww, BdAt ww b r d tv dg → ww.ownsRow 0 5 1 tv n xs → Calls Tryz.prog 47 #[.pointer (some ⟨b, 1, none⟩), .int .u8 key, .int .i64 0] ww fun e w' => e = .returned (.tuple #[]) ∧ ∃ tv', BdAt w' b r d tv' dg ∧ w'.ownsRow 0 5 1 tv' (n + 1) (xs ++ [.int .u8 key]) ∧ (tv'.ownBlock = tv.ownBlock ∨ ∃ g, tv'.ownBlock = some g ∧ ww.heap.size ≤ g) ∧ Upd (b :: own tv) ww w') := fun ww h1 h2 => mKeep_normal b r d tv dg key n xs ww h1 htb h2 hn
  have HE : Hid (∀ tv' ww, BdAt ww b r d tv' dg → Calls Tryz.prog 48 #[.pointer (some ⟨b, 1, none⟩), .int .i64 O] ww fun e w' => e = .returned (.tuple #[]) ∧ BdAt w' b r d (.slice none 0 0) dg ∧ Upd [b] ww w') := fun tv' ww h1 => mEnd b r d tv' dg O ww h1 hO2
  have HR := hr w hA
  have b0 := HB.c0
  have r0 := HR.bg.c0
  have d3 := HR.dk.c3
  rw [hm] at d3
  have bl := HB.lt
  have rl := HR.bg.lt
  have dl := HR.dk.lt
  have hO0' : (O == 0) = false := by simp [hO0]
  have hO0q : (O != 0) = true := by simp [hO0]
  clear hn hO0 hO2
  go_enter Tryz.func38, Tryz.ntmps38
  go_wp2_with fail
  refine Calls.mono (HT.out _ HB hA) ?_
  rintro e w1 ⟨rfl, R1, u1⟩
  have B1 := HB.upd u1 hbT
  have o1 := ownsRow_upd ho u1 htT
  go_wp2_with fail
  refine Calls.mono (HK.out _ B1 o1) ?_
  rintro e w2 ⟨rfl, tv', B2, o2, f2, u2⟩
  have S2 := sB _ _ R1 u2
  obtain ⟨p2, R2, hm2, hnow⟩ := hB w2 S2
  have HH : Hid (∀ ww, RdAt ww r d p2 → Calls Tryz.prog 49 #[.pointer (some ⟨d, 5, none⟩), .string p2.t] ww fun e w' => e = .returned (.tuple #[]) ∧ Below ww.heap.size ww w') := fun ww h1 => hKeep_same r d p2 ww h1 hnow
  have hm2q : (p2.mode != 1) = true := by simp [hm2]
  have hm2' : (p2.mode == 1) = false := by simp [hm2]
  have e0 := B2.c0
  have e1 := R2.bg.c0
  have e2 := R2.dk.c3
  clear f2 o2 hm2 hnow
  go_wp2_with fail
  refine Calls.mono (HE.out _ _ B2) ?_
  rintro e w3 ⟨rfl, B3, u3⟩
  have R3 : RdAt w3 r d p2 := R2.upd u3 (by simp; exact fun e => hbr e.symm) (by simp; exact fun e => hbd e.symm)
  have S3 := sB _ _ S2 (u3.mono (by simp))
  have g0 := B3.c0
  have g1 := R3.bg.c0
  have g2 := R3.dk.c0
  have H := R3
  go_wp2_with fail
  go_region_held3 (fun ww => ww.cell? ⟨b, 0, none⟩ = some (.pointer (some ⟨r, 0, none⟩)) ∧ ww.cell? ⟨r, 0, none⟩ = some (.pointer (some ⟨d, 0, none⟩)) ∧ ww.cell? ⟨d, 0, none⟩ = some (.string p2.t)) ((refine ⟨?_, ?_, ?_⟩ <;> (first | (go_simp; done) | ((repeat (first | with_reducible assumption | (with_reducible refine memLater ((Below.refl _ _).alloc (Nat.le_refl _) _) ?_) | (with_reducible refine memLater ((Below.refl _ _).drew) ?_) | (with_reducible refine memLater h4 ?_) | (with_reducible refine (memSet (by omega)).trans ?_) | (go_simp; done))); done)))) ((go_at_call 49; refine Calls.mono (HH.out _ (by (repeat (with_reducible first | exact H | refine RdAt.alloc ?_ _ | refine RdAt.drewN ?_ _ | refine RdAt.drew ?_ | refine r_o ?_ _)))) ?_; rintro r4 w4 ⟨rfl, h4⟩; have hz4 := h4.size; (try simp at hz4); (try have hl4_0 : b < w4.heap.size := (by omega)); (try have hk4_0 : b < w4.heap.size + 1 := (by omega)); (try have hl4_1 : d < w4.heap.size := (by omega)); (try have hk4_1 : d < w4.heap.size + 1 := (by omega)); (try have hl4_2 : r < w4.heap.size := (by omega)); (try have hk4_2 : r < w4.heap.size + 1 := (by omega))))
  go_wp2
  go_ret
  have B4 := (B3.drew).below h4
  refine ⟨rfl, fB _ _ (fB _ _ S3 ((Below.refl _ _).drew)) h4, B4, ?_⟩
  refine Upd.below (Upd.drew ?_) h4
  exact ((u1.mono (by intro k hk; simp [hk])).trans (u2.mono (by intro k hk; simp only [List.mem_cons, List.mem_append] at hk ⊢; rcases hk with hk | hk <;> simp [hk]))).trans (u3.mono (by simp))
theorem press_mark_doneB (b r d : Nat) (p : Pg) (tv : Value) (dg : ByteArray) (key O : Int) (A B : World → Prop) (T : List Nat) (w : World) (HB : BdAt w b r d tv dg) (hA : A w) (hr : HasR A r d p) (hbT : b ∉ T) (hm : p.mode = 2 ∨ p.mode = 3) (sB : ∀ u v, B u → Upd [b] u v → B v) (fB : Firm B) (hB : ∀ ww, B ww → ∃ p2, RdAt ww r d p2 ∧ ¬ p2.mode = 1 ∧ p2.now = p2.t) (hbr : b ≠ r) (hbd : b ≠ d) (hO0 : ¬ O = 0) (hO2 : ¬ O = 2) (HT : TakesB b r d tv dg key A B O T) :
    Calls Tryz.prog 38 #[.pointer (some ⟨b, 0, none⟩), .int .u8 key] w fun e w' => e = .returned (.int .i64 O) ∧ B w' ∧ BdAt w' b r d (.slice none 0 0) dg ∧ Upd (b :: T) w w' := by
  have HK : Hid (∀ ww, BdAt ww b r d tv dg → Calls Tryz.prog 47 #[.pointer (some ⟨b, 1, none⟩), .int .u8 key, .int .i64 p.mode] ww fun e w' => e = .returned (.tuple #[]) ∧ Below ww.heap.size ww w') := fun ww h1 => mKeep_not b r d tv dg key p.mode ww h1 hm
  have HE : Hid (∀ tv' ww, BdAt ww b r d tv' dg → Calls Tryz.prog 48 #[.pointer (some ⟨b, 1, none⟩), .int .i64 O] ww fun e w' => e = .returned (.tuple #[]) ∧ BdAt w' b r d (.slice none 0 0) dg ∧ Upd [b] ww w') := fun tv' ww h1 => mEnd b r d tv' dg O ww h1 hO2
  have HR := hr w hA
  have b0 := HB.c0
  have r0 := HR.bg.c0
  have d3 := HR.dk.c3
  have bl := HB.lt
  have rl := HR.bg.lt
  have dl := HR.dk.lt
  have hO0' : (O == 0) = false := by simp [hO0]
  have hO0q : (O != 0) = true := by simp [hO0]
  clear hm hO0 hO2
  generalize p.mode = M at *
  go_enter Tryz.func38, Tryz.ntmps38
  go_wp2_with fail
  refine Calls.mono (HT.out _ HB hA) ?_
  rintro e w1 ⟨rfl, R1, u1⟩
  have B1 := HB.upd u1 hbT
  go_wp2_with fail
  refine Calls.mono (HK.out _ B1) ?_
  rintro e w2 ⟨rfl, h2⟩
  have B2 := B1.below h2
  have S2 := fB _ _ R1 h2
  obtain ⟨p2, R2, hm2, hnow⟩ := hB w2 S2
  have HH : Hid (∀ ww, RdAt ww r d p2 → Calls Tryz.prog 49 #[.pointer (some ⟨d, 5, none⟩), .string p2.t] ww fun e w' => e = .returned (.tuple #[]) ∧ Below ww.heap.size ww w') := fun ww h1 => hKeep_same r d p2 ww h1 hnow
  have hm2q : (p2.mode != 1) = true := by simp [hm2]
  have hm2' : (p2.mode == 1) = false := by simp [hm2]
  have e0 := B2.c0
  have e1 := R2.bg.c0
  have e2 := R2.dk.c3
  clear hm2 hnow
  go_wp2_with fail
  refine Calls.mono (HE.out _ _ B2) ?_
  rintro e w3 ⟨rfl, B3, u3⟩
  have R3 : RdAt w3 r d p2 := R2.upd u3 (by simp; exact fun e => hbr e.symm) (by simp; exact fun e => hbd e.symm)
  have S3 := sB _ _ S2 u3
  have g0 := B3.c0
  have g1 := R3.bg.c0
  have g2 := R3.dk.c0
  have H := R3
  go_wp2_with fail
  go_region_held3 (fun ww => ww.cell? ⟨b, 0, none⟩ = some (.pointer (some ⟨r, 0, none⟩)) ∧ ww.cell? ⟨r, 0, none⟩ = some (.pointer (some ⟨d, 0, none⟩)) ∧ ww.cell? ⟨d, 0, none⟩ = some (.string p2.t)) ((refine ⟨?_, ?_, ?_⟩ <;> (first | (go_simp; done) | ((repeat (first | with_reducible assumption | (with_reducible refine memLater ((Below.refl _ _).alloc (Nat.le_refl _) _) ?_) | (with_reducible refine memLater ((Below.refl _ _).drew) ?_) | (with_reducible refine memLater h4 ?_) | (with_reducible refine (memSet (by omega)).trans ?_) | (go_simp; done))); done)))) ((go_at_call 49; refine Calls.mono (HH.out _ (by (repeat (with_reducible first | exact H | refine RdAt.alloc ?_ _ | refine RdAt.drewN ?_ _ | refine RdAt.drew ?_ | refine r_o ?_ _)))) ?_; rintro r4 w4 ⟨rfl, h4⟩; have hz4 := h4.size; (try simp at hz4); (try have hl4_0 : b < w4.heap.size := (by omega)); (try have hk4_0 : b < w4.heap.size + 1 := (by omega)); (try have hl4_1 : d < w4.heap.size := (by omega)); (try have hk4_1 : d < w4.heap.size + 1 := (by omega)); (try have hl4_2 : r < w4.heap.size := (by omega)); (try have hk4_2 : r < w4.heap.size + 1 := (by omega))))
  go_wp2
  go_ret
  have B4 := (B3.drew).below h4
  refine ⟨rfl, fB _ _ (fB _ _ S3 ((Below.refl _ _).drew)) h4, B4, ?_⟩
  refine Upd.below (Upd.drew ?_) h4
  exact (Upd.below (u1.mono (by intro k hk; simp [hk])) h2).trans (u3.mono (by simp))
theorem mEnd_did (b r d g n cap : Nat) (ns : List Int) (dg : ByteArray) (w : World) (hb : BdAt w b r d (.slice (some ⟨g, 0, none⟩) n cap) dg) (ho : w.ownsRow 0 5 1 (.slice (some ⟨g, 0, none⟩) n cap) n (ns.map (Value.int .u8))) (hn0 : 0 < n) (hl : ns.length = n) :
    Calls Tryz.prog 48 #[.pointer (some ⟨b, 1, none⟩), .int .i64 2] w fun e w' => e = .returned (.tuple #[]) ∧ BdAt w' b r d (.slice none 0 0) (strOfNums ns) ∧ Upd [b] w w' := by
  have HS := (hb.set_dg (strOfNums ns)).set_tv (.slice none 0 0)
  have hcv : (convert 48 9 (.slice (some ⟨g, 0, none⟩) n cap)).run Tryz.prog w = .ok (.string (strOfNums ns)) w := by
    refine run_convert_bytes_arg w 48 5 Tryz.underlying48 Tryz.underlying5 g 0 n cap ns hl ?_ 9 Tryz.underlying9
    intro i hi
    have hx := ho.cells (g := g) rfl i (.int .u8 (ns.getD i 0)) (by
      rw [List.getElem?_map]
      rw [List.getElem?_eq_getElem (by omega)]
      simp [List.getD_eq_getElem?_getD, List.getElem?_eq_getElem (show i < ns.length by omega)])
    have ha : (⟨g, 0, none⟩ : Addr).add i = ⟨g, 0 + i, none⟩ := by unfold Addr.add; split <;> simp_all
    rw [ha] at hx
    exact hx
  obtain ⟨b0, b1, b2, b3, b4, b5, bz, bl⟩ := hb
  have hn1 : (0 : Int) < ((n : Nat) : Int) := by omega
  generalize strOfNums ns = X at *
  clear ho
  go_enter Tryz.func48, Tryz.ntmps48
  go_wp2
  go_end0
  refine ⟨rfl, HS, ?_⟩
  repeat (with_reducible first | exact Upd.refl _ _ | assumption | refine u_s ?_ _ | refine Upd.alloc ?_ _ | refine Upd.drewN ?_ _ | refine Upd.drew ?_)
theorem press_normal_did (b r d : Nat) (p p2 : Pg) (tv : Value) (n : Nat) (ns : List Int) (dg : ByteArray) (key : Int) (nb : Nat) (bs : List Value) (A E : World → Prop) (T : List Nat) (w : World) (HB : BdAt w b r d tv dg) (ho : w.ownsRow 0 5 1 tv n (ns.map (Value.int .u8))) (hA : A w) (hr : HasR A r d p) (hbT : b ∉ T) (htb : tv.ownBlock ≠ some b) (htr : tv.ownBlock ≠ some r) (htd : tv.ownBlock ≠ some d) (htT : ∀ k, k ∈ T → tv.ownBlock ≠ some k) (hn : n ≤ 17592186044416) (hm : p.mode = 0)
    (sE : ∀ u v, E u → Upd (b :: d :: (own tv ++ own p2.back)) u v → E v)
    (hm2 : ¬ p2.mode = 1) (hne : ¬ p2.t = p2.now) (hs : p2.t.size ≤ 1000) (hs2 : p2.now.size ≤ 1000) (hbk : ∀ ww, E ww → ww.ownsRow 0 130 3 p2.back nb bs) (hkd : p2.back.ownBlock ≠ some d) (hkr : p2.back.ownBlock ≠ some r) (hkb : p2.back.ownBlock ≠ some b) (hnb : nb ≤ 1000000) (hbr : b ≠ r) (hbd : b ≠ d) (HT : TakesB b r d tv dg key A (fun ww => RdAt ww r d p2 ∧ E ww) 2 T) :
    Calls Tryz.prog 38 #[.pointer (some ⟨b, 0, none⟩), .int .u8 key] w fun e w' => e = .returned (.int .i64 2) ∧ BdAt w' b r d (.slice none 0 0) (strOfNums (ns ++ [key])) ∧ ∃ g cap, RdAt w' r d { p2 with now := p2.t, back := .slice (some ⟨g, 0, none⟩) (nb + 1) cap, forth := .slice none 0 0 } ∧ E w' ∧ w'.ownsRow 0 130 3 (.slice (some ⟨g, 0, none⟩) (nb + 1) cap) (nb + 1) (bs ++ stp p2.t p2.now) ∧ (p2.back.ownBlock = some g ∨ w.heap.size ≤ g) ∧ Upd (b :: d :: (T ++ (own tv ++ own p2.back))) w w' := by
  have HK : Hid (∀ ww, BdAt ww b r d tv dg → ww.ownsRow 0 5 1 tv n (ns.map (Value.int .u8)) → Calls Tryz.prog 47 #[.pointer (some ⟨b, 1, none⟩), .int .u8 key, .int .i64 0] ww fun e w' => e = .returned (.tuple #[]) ∧ ∃ tv', BdAt w' b r d tv' dg ∧ w'.ownsRow 0 5 1 tv' (n + 1) (ns.map (Value.int .u8) ++ [.int .u8 key]) ∧ (tv'.ownBlock = tv.ownBlock ∨ ∃ g, tv'.ownBlock = some g ∧ ww.heap.size ≤ g) ∧ Upd (b :: own tv) ww w') := fun ww h1 h2 => mKeep_normal b r d tv dg key n (ns.map (Value.int .u8)) ww h1 htb h2 hn
  have HE : Hid (∀ tv' ww, BdAt ww b r d tv' dg → ww.ownsRow 0 5 1 tv' (n + 1) ((ns ++ [key]).map (Value.int .u8)) → Calls Tryz.prog 48 #[.pointer (some ⟨b, 1, none⟩), .int .i64 2] ww fun e w' => e = .returned (.tuple #[]) ∧ BdAt w' b r d (.slice none 0 0) (strOfNums (ns ++ [key])) ∧ Upd [b] ww w') := by
    intro tv' ww h1 h2
    obtain ⟨g, cap, rfl, _⟩ := owned_some h2 (by omega)
    have hlen := h2.1
    simp only [List.length_map] at hlen
    exact mEnd_did b r d g (n + 1) cap (ns ++ [key]) dg ww h1 h2 (by omega) (by omega)
  have HH : Hid (∀ ww, RdAt ww r d p2 → ww.ownsRow 0 130 3 p2.back nb bs → Calls Tryz.prog 49 #[.pointer (some ⟨d, 5, none⟩), .string p2.t] ww fun e w' => e = .returned (.tuple #[]) ∧ ∃ g cap, RdAt w' r d { p2 with now := p2.t, back := .slice (some ⟨g, 0, none⟩) (nb + 1) cap, forth := .slice none 0 0 } ∧ w'.ownsRow 0 130 3 (.slice (some ⟨g, 0, none⟩) (nb + 1) cap) (nb + 1) (bs ++ stp p2.t p2.now) ∧ (p2.back.ownBlock = some g ∨ ww.heap.size ≤ g) ∧ Upd (d :: own p2.back) ww w') := fun ww h1 h2 => hKeep_new r d p2 nb bs ww h1 h2 hkd hkr hnb hne hs hs2
  generalize strOfNums (ns ++ [key]) = DG at *
  generalize bs ++ stp p2.t p2.now = BS at *
  have HR := hr w hA
  have b0 := HB.c0
  have r0 := HR.bg.c0
  have d3 := HR.dk.c3
  rw [hm] at d3
  have bl := HB.lt
  have rl := HR.bg.lt
  have dl := HR.dk.lt
  have hm2q : (p2.mode != 1) = true := by simp [hm2]
  have hm2' : (p2.mode == 1) = false := by simp [hm2]
  clear hn
  go_enter Tryz.func38, Tryz.ntmps38
  go_wp2_with fail
  refine Calls.mono (HT.out _ HB hA) ?_
  rintro e w1 ⟨rfl, ⟨R1, E1⟩, u1⟩
  have B1 := HB.upd u1 hbT
  have o1 := ownsRow_upd ho u1 htT
  go_wp2_with fail
  refine Calls.mono (HK.out _ B1 o1) ?_
  rintro e w2 ⟨rfl, tv', B2, o2, f2, u2⟩
  have R2 : RdAt w2 r d p2 := R1.upd u2 (by simp [mem_own, htr]; exact fun e => hbr e.symm) (by simp [mem_own, htd]; exact fun e => hbd e.symm)
  have E2 := sE _ _ E1 (u2.mono (by intro k hk; simp only [List.mem_cons, List.mem_append] at hk ⊢; rcases hk with hk | hk <;> simp [hk]))
  rw [show ns.map (Value.int .u8) ++ [.int .u8 key] = (ns ++ [key]).map (Value.int .u8) by simp] at o2
  have e0 := B2.c0
  have e1 := R2.bg.c0
  have e2 := R2.dk.c3
  clear f2
  go_wp2_with fail
  refine Calls.mono (HE.out _ _ B2 o2) ?_
  rintro e w3 ⟨rfl, B3, u3⟩
  have R3 : RdAt w3 r d p2 := R2.upd u3 (by simp; exact fun e => hbr e.symm) (by simp; exact fun e => hbd e.symm)
  have E3 := sE _ _ E2 (u3.mono (by simp))
  have g0 := B3.c0
  have g1 := R3.bg.c0
  have g2 := R3.dk.c0
  have z1 := u1.size
  have z2 := u2.size
  have z3 := u3.size
  have E3d := sE _ _ E3 (Upd.drew (Upd.refl _ _))
  have ok3 := hbk _ E3d
  go_wp2_with fail
  go_region_held3 (fun ww => ww.cell? ⟨b, 0, none⟩ = some (.pointer (some ⟨r, 0, none⟩)) ∧ ww.cell? ⟨r, 0, none⟩ = some (.pointer (some ⟨d, 0, none⟩)) ∧ ww.cell? ⟨d, 0, none⟩ = some (.string p2.t)) ((refine ⟨?_, ?_, ?_⟩ <;> (first | (go_simp; done) | (with_reducible assumption)))) ((go_at_call 49; refine Calls.mono (HH.out _ R3.drew ok3) ?_; rintro e4 w4 ⟨rfl, gg, cap, R4, o4, f4, u4⟩; have q1 := R4.bg.c0; have q2 := R4.dk.c0; have q0 := u4.was (b := b) (o := 0) (v := .pointer (some ⟨r, 0, none⟩)) (memLater ((Below.refl _ _).drew) g0) (by simp [mem_own, hkb, hbd])))
  go_wp2
  go_ret
  have B4 : BdAt w4 b r d (.slice none 0 0) DG := (B3.drew).upd u4 (by simp [mem_own, hkb, hbd])
  have E4 := sE _ _ E3d (u4.mono (by intro k hk; simp only [List.mem_cons, List.mem_append] at hk ⊢; rcases hk with hk | hk <;> simp [hk]))
  have z4 := u4.size
  simp at z4
  refine ⟨rfl, B4, gg, cap, R4, E4, o4, ?_, ?_⟩
  · rcases f4 with f | f
    · exact Or.inl f
    · simp at f; exact Or.inr (by omega)
  · refine Upd.trans (Upd.drew (((u1.mono ?_).trans (u2.mono ?_)).trans (u3.mono ?_))) (u4.mono ?_)
    · intro k hk; simp [hk]
    · intro k hk; simp only [List.mem_cons, List.mem_append] at hk ⊢; rcases hk with hk | hk <;> simp [hk]
    · simp
    · intro k hk; simp only [List.mem_cons, List.mem_append] at hk ⊢; rcases hk with hk | hk <;> simp [hk]
theorem mTake_cmdB (r d : Nat) (p : Pg) (key O : Int) (A B : World → Prop) (T : List Nat) (w : World) (hA : A w) (fA : Firm A) (fB : Firm B) (hr : HasR A r d p) (hp : p.part = 0) (hv : p.verb = 0) (hd : Nib.isD p.n key = false)
    (HC : GivesB 141 #[.agg #[.pointer (some ⟨r, 0, none⟩)], .int .u8 key] A B O T) :
    Calls Tryz.prog 137 #[.agg #[.pointer (some ⟨r, 0, none⟩)], .int .u8 key] w fun e w' => e = .returned (.int .i64 O) ∧ B w' ∧ Upd T w w' := by
  have H := hr w hA
  have HD : Hid (∀ ww, RdAt ww r d p → Calls Tryz.prog 139 #[.pointer (some ⟨r, 1, none⟩), .int .u8 key] ww fun e w' => e = .returned (.bool false) ∧ Below ww.heap.size ww w') := fun ww hh => mDigit_no r d p key ww hh hv hd
  obtain ⟨b0, b1, b2, b3, b4, b5, bz, bl⟩ := H.bg
  rw [hp] at b5
  rw [hv] at b3
  clear b1 b2 b4 hp hv hd
  have l1 : r < w.heap.size + 1 := by omega
  go_enter Tryz.func137, Tryz.ntmps137
  go_wp2_with fail
  refine Calls.mono (HD.out _ (by (repeat (with_reducible first | exact H | refine RdAt.alloc ?_ _ | refine RdAt.drewN ?_ _ | refine RdAt.drew ?_ | refine r_o ?_ _)))) ?_
  rintro e w1 ⟨rfl, h1⟩
  obtain ⟨hc1, hf1⟩ := bcell h1
  have hz1 := h1.size
  simp at hz1
  have l2 : r < w1.heap.size := by omega
  go_wp2_with fail
  refine Calls.mono (HC.out _ (fA _ _ hA (by (repeat (with_reducible first | exact Below.refl _ _ | refine b_s ?_ _ | refine b_a ?_ _ | refine Below.drew ?_ | refine below_drewN ?_ _ | refine b_t ?_ h1))))) ?_
  rintro e w2 ⟨rfl, h2, u2⟩
  go_wp2
  go_ret
  refine ⟨rfl, ?_, ?_⟩
  · exact (fB _ _ h2 (by (repeat (with_reducible first | exact Below.refl _ _ | refine b_s ?_ _ | refine b_a ?_ _ | refine Below.drew ?_ | refine below_drewN ?_ _))))
  · repeat (with_reducible first | exact Upd.refl _ _ | refine u_s ?_ _ | refine Upd.alloc ?_ _ | refine Upd.drewN ?_ _ | refine Upd.drew ?_ | refine Upd.trans ?_ (Upd.mono u2 (by simp)) | refine Upd.below ?_ h1)
end Go.Proofs.YtlendfhehhacpaaGreat
