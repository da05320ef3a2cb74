/- A part. -/
import Derived.Test.YtlendfhehhacpaaGreatT13
set_option linter.unusedVariables false
set_option linter.unusedSimpArgs false
set_option maxRecDepth 100000
set_option maxHeartbeats 8000000
namespace Go.Proofs.YtlendfhehhacpaaGreat
open Go.RowKit Nib Tryz
theorem bTake_normal_moreB (b r d : Nat) (tv : Value) (dg : ByteArray) (p : Pg) (key : Int) (A B : World → Prop) (T : List Nat) (w : World) (hb : BdAt w b r d tv dg) (hA : A w) (fA : Firm A) (fB : Firm B) (hr : HasR A r d p) (hm : p.mode = 0) (hk : ¬ key = 27)
  (HC : GivesB 137 #[.agg #[.pointer (some ⟨r, 0, none⟩)], .int .u8 key] A B 0 T) :
  Calls Tryz.prog 46 #[.pointer (some ⟨b, 0, none⟩), .int .u8 key] w fun e w' => e = .returned (.int .i64 0) ∧ B w' ∧ Upd T w w' := by
 have HO : Hid (∀ ww, BdAt ww b r d tv dg → RdAt ww r d p → qC 64 #[.pointer (some ⟨b, 0, none⟩)] ww (.iface 77 (.agg #[.pointer (some ⟨r, 0, none⟩)]))) := fun ww h1 h2 => mOn_normal b r d tv dg p ww h1 h2 hm
 have H := hr w hA
 have hk' : (key == 27) = false := by simp [hk]
 have hmt := meth_normal_take ⟨r, 0, none⟩
 clear hm hk
 go_enter func46, ntmps46
 go_wp2_with fail
 refine Calls.mono (HO.out _ hb H) ?_
 rintro e w1 ⟨rfl, h1⟩
 go_wp2_with fail
 refine Calls.mono (HC.out _ (fA _ _ hA qB)) ?_
 rintro e w2 ⟨rfl, h2, u2⟩
 go_wp2
 go_ret
 refine ⟨rfl, ?_, ?_⟩
 ·exact (fB _ _ h2 qB)
 ·repeat exact qU
theorem qt46 {P : Prop} (h : P := by
  clear hm hk hO0 hO3
  go_enter func46, ntmps46
  go_wp2_with fail
  refine Calls.mono (HO.out _ hb H) ?_
  rintro e w1 ⟨rfl, h1⟩
  go_wp2_with fail
  refine Calls.mono (HC.out _ (fA _ _ hA qB)) ?_
  rintro e w2 ⟨rfl, h2, u2⟩
  have B2 := (hb.below h1).upd u2 hbT
  have e0 := B2.c0
  obtain ⟨p2, R2⟩ := hBr w2 h2
  have g0 := R2.bg.c0
  have gl := R2.bg.lt
  go_wp2_with fail
  refine Calls.mono (HF.out _ (fB _ _ h2 qB)) ?_
  rintro e w3 ⟨rfl, h3, u3⟩
  go_wp2
  go_ret
  refine ⟨rfl, ?_, ?_⟩
  ·exact (fC _ _ h3 qB)
  ·refine Upd.trans (S := r :: T) ?_ (Upd.mono u3 qi)
   refine Upd.trans (S := r :: T) ?_ (Upd.mono u2 (by intro k hk; simp [hk]))
   exact Upd.of_below h1
 ) : P := h
theorem bTake_normal_doneB (b r d : Nat) (tv : Value) (dg : ByteArray) (p : Pg) (key O : Int) (C : World → Prop) (A B : World → Prop) (T : List Nat) (w : World) (hb : BdAt w b r d tv dg) (hA : A w) (fA : Firm A) (fB : Firm B) (hr : HasR A r d p) (hm : p.mode = 0) (hk : ¬ key = 27) (hbT : b ∉ T) (hO0 : ¬ O = 0) (hO3 : ¬ O = 3) (fC : Firm C) (hBr : ∀ ww, B ww → ∃ p2, RdAt ww r d p2)
  (HF : Hid (∀ ww, B ww → Calls Tryz.prog 65 #[.pointer (some ⟨r, 1, none⟩)] ww fun e w' => e = .returned (.tuple #[]) ∧ C w' ∧ Upd [r] ww w'))
  (HC : GivesB 137 #[.agg #[.pointer (some ⟨r, 0, none⟩)], .int .u8 key] A B O T) :
  Calls Tryz.prog 46 #[.pointer (some ⟨b, 0, none⟩), .int .u8 key] w fun e w' => e = .returned (.int .i64 O) ∧ C w' ∧ Upd (r :: T) w w' := by
 have HO : Hid (∀ ww, BdAt ww b r d tv dg → RdAt ww r d p → qC 64 #[.pointer (some ⟨b, 0, none⟩)] ww (.iface 77 (.agg #[.pointer (some ⟨r, 0, none⟩)]))) := fun ww h1 h2 => mOn_normal b r d tv dg p ww h1 h2 hm
 have H := hr w hA
 have hk' : (key == 27) = false := by simp [hk]
 have hO0' : (O == 0) = false := by simp [hO0]
 have hO3' : (O == 3) = false := by simp [hO3]
 have hmt := meth_normal_take ⟨r, 0, none⟩
 exact qt46
theorem bTake_marking_doneB (b r d : Nat) (tv : Value) (dg : ByteArray) (p : Pg) (key O : Int) (C : World → Prop) (A B : World → Prop) (T : List Nat) (w : World) (hb : BdAt w b r d tv dg) (hA : A w) (fA : Firm A) (fB : Firm B) (hr : HasR A r d p) (hm : p.mode = 2 ∨ p.mode = 3) (hk : ¬ key = 27) (hbT : b ∉ T) (hO0 : ¬ O = 0) (hO3 : ¬ O = 3) (fC : Firm C) (hBr : ∀ ww, B ww → ∃ p2, RdAt ww r d p2)
  (HF : Hid (∀ ww, B ww → Calls Tryz.prog 65 #[.pointer (some ⟨r, 1, none⟩)] ww fun e w' => e = .returned (.tuple #[]) ∧ C w' ∧ Upd [r] ww w'))
  (HC : GivesB 309 #[.agg #[.pointer (some ⟨r, 0, none⟩)], .int .u8 key] A B O T) :
  Calls Tryz.prog 46 #[.pointer (some ⟨b, 0, none⟩), .int .u8 key] w fun e w' => e = .returned (.int .i64 O) ∧ C w' ∧ Upd (r :: T) w w' := by
 have HO : Hid (∀ ww, BdAt ww b r d tv dg → RdAt ww r d p → qC 64 #[.pointer (some ⟨b, 0, none⟩)] ww (.iface 81 (.agg #[.pointer (some ⟨r, 0, none⟩)]))) := fun ww h1 h2 => mOn_marking b r d tv dg p ww h1 h2 hm
 have H := hr w hA
 have hk' : (key == 27) = false := by simp [hk]
 have hO0' : (O == 0) = false := by simp [hO0]
 have hO3' : (O == 3) = false := by simp [hO3]
 have hmt := meth_marking_take ⟨r, 0, none⟩
 exact qt46
abbrev TakesB (b r d : Nat) (tv : Value) (dg : ByteArray) (key : Int) (A B : World → Prop) (O : Int) (T : List Nat) : Prop :=
 Hid (∀ ww, BdAt ww b r d tv dg → A ww → Calls Tryz.prog 46 #[.pointer (some ⟨b, 0, none⟩), .int .u8 key] ww fun e w' => e = .returned (.int .i64 O) ∧ B w' ∧ Upd T ww w')
theorem press_normal_moreB (b r d : Nat) (p : Pg) (tv : Value) (n : Nat) (xs : List Value) (dg : ByteArray) (key : Int) (A B : World → Prop) (T : List Nat) (w : World) (HB : BdAt w b r d tv dg) (ho : w.ownsRow 0 5 1 tv n xs) (hA : A w) (hr : HasR A r d p) (hbT : b ∉ T) (htb : tv.ownBlock ≠ some b) (htT : ∀ k, k ∈ T → tv.ownBlock ≠ some k) (hn : n ≤ 17592186044416) (hm : p.mode = 0) (sB : ∀ u v, B u → Upd (b :: own tv) u v → B v) (HT : TakesB b r d tv dg key A B 0 T) :
  Calls Tryz.prog 38 #[.pointer (some ⟨b, 0, none⟩), .int .u8 key] w fun e w' => e = .returned (.int .i64 0) ∧ B w' ∧ ∃ tv', BdAt w' b r d tv' dg ∧ w'.ownsRow 0 5 1 tv' (n + 1) (xs ++ [.int .u8 key]) ∧ (tv'.ownBlock = tv.ownBlock ∨ ∃ g, tv'.ownBlock = some g ∧ w.heap.size ≤ g) ∧ Upd (b :: (T ++ own tv)) w w' := by
 have HK : Hid (∀ ww, BdAt ww b r d tv dg → ww.ownsRow 0 5 1 tv n xs → Calls Tryz.prog 47 #[.pointer (some ⟨b, 1, none⟩), .int .u8 key, .int .i64 0] ww fun e w' => e = .returned (.tuple #[]) ∧ ∃ tv', BdAt w' b r d tv' dg ∧ w'.ownsRow 0 5 1 tv' (n + 1) (xs ++ [.int .u8 key]) ∧ (tv'.ownBlock = tv.ownBlock ∨ ∃ g, tv'.ownBlock = some g ∧ ww.heap.size ≤ g) ∧ Upd (b :: own tv) ww w') := fun ww h1 h2 => mKeep_normal b r d tv dg key n xs ww h1 htb h2 hn
 have HR := hr w hA
 have b0 := HB.c0
 have r0 := HR.bg.c0
 have d3 := HR.dk.c3
 rw [hm] at d3
 have bl := HB.lt
 have rl := HR.bg.lt
 have dl := HR.dk.lt
 clear hn
 go_enter func38, ntmps38
 go_wp2_with fail
 refine Calls.mono (HT.out _ HB hA) ?_
 rintro e w1 ⟨rfl, R1, u1⟩
 have B1 := HB.upd u1 hbT
 have o1 := ownsRow_upd ho u1 htT
 go_wp2_with fail
 refine Calls.mono (HK.out _ B1 o1) ?_
 rintro e w2 ⟨rfl, tv', B2, o2, f2, u2⟩
 have hz1 := u1.size
 have F : Hid (tv'.ownBlock = tv.ownBlock ∨ ∃ g, tv'.ownBlock = some g ∧ w1.heap.size ≤ g) := f2
 clear f2
 go_wp2
 go_ret
 refine ⟨rfl, sB _ _ R1 u2, tv', B2, o2, ?_, ?_⟩
 ·rcases F.out with hf | ⟨g, hg, hg2⟩
  ·exact Or.inl hf
  ·exact Or.inr ⟨g, hg, by omega⟩
 ·exact (u1.mono (by intro k hk; simp [hk])).trans (u2.mono (by intro k hk; simp only [List.mem_cons, List.mem_append] at hk ⊢; rcases hk with hk | hk <;> simp [hk]))
theorem press_normal_doneB (b r d : Nat) (p : Pg) (tv : Value) (n : Nat) (xs : List Value) (dg : ByteArray) (key O : Int) (A B : World → Prop) (T : List Nat) (w : World) (HB : BdAt w b r d tv dg) (ho : w.ownsRow 0 5 1 tv n xs) (hA : A w) (hr : HasR A r d p) (hbT : b ∉ T) (htb : tv.ownBlock ≠ some b) (htT : ∀ k, k ∈ T → tv.ownBlock ≠ some k) (hn : n ≤ 17592186044416) (hm : p.mode = 0) (sB : ∀ u v, B u → Upd (b :: own tv) u v → B v) (fB : Firm B) (hB : ∀ ww, B ww → ∃ p2, RdAt ww r d p2 ∧ ¬ p2.mode = 1 ∧ p2.now = p2.t) (hbr : b ≠ r) (hbd : b ≠ d) (hO0 : ¬ O = 0) (hO2 : ¬ O = 2) (HT : TakesB b r d tv dg key A B O T) :
  Calls Tryz.prog 38 #[.pointer (some ⟨b, 0, none⟩), .int .u8 key] w fun e w' => e = .returned (.int .i64 O) ∧ B w' ∧ BdAt w' b r d (.slice none 0 0) dg ∧ Upd (b :: (T ++ own tv)) w w' := by
 have HK : Hid (∀ ww, BdAt ww b r d tv dg → ww.ownsRow 0 5 1 tv n xs → Calls Tryz.prog 47 #[.pointer (some ⟨b, 1, none⟩), .int .u8 key, .int .i64 0] ww fun e w' => e = .returned (.tuple #[]) ∧ ∃ tv', BdAt w' b r d tv' dg ∧ w'.ownsRow 0 5 1 tv' (n + 1) (xs ++ [.int .u8 key]) ∧ (tv'.ownBlock = tv.ownBlock ∨ ∃ g, tv'.ownBlock = some g ∧ ww.heap.size ≤ g) ∧ Upd (b :: own tv) ww w') := fun ww h1 h2 => mKeep_normal b r d tv dg key n xs ww h1 htb h2 hn
 have HE : Hid (∀ tv' ww, BdAt ww b r d tv' dg → Calls Tryz.prog 48 #[.pointer (some ⟨b, 1, none⟩), .int .i64 O] ww fun e w' => e = .returned (.tuple #[]) ∧ BdAt w' b r d (.slice none 0 0) dg ∧ Upd [b] ww w') := fun tv' ww h1 => mEnd b r d tv' dg O ww h1 hO2
 have HR := hr w hA
 have b0 := HB.c0
 have r0 := HR.bg.c0
 have d3 := HR.dk.c3
 rw [hm] at d3
 have bl := HB.lt
 have rl := HR.bg.lt
 have dl := HR.dk.lt
 have hO0' : (O == 0) = false := by simp [hO0]
 have hO0q : (O != 0) = true := by simp [hO0]
 clear hn hO0 hO2
 go_enter func38, ntmps38
 go_wp2_with fail
 refine Calls.mono (HT.out _ HB hA) ?_
 rintro e w1 ⟨rfl, R1, u1⟩
 have B1 := HB.upd u1 hbT
 have o1 := ownsRow_upd ho u1 htT
 go_wp2_with fail
 refine Calls.mono (HK.out _ B1 o1) ?_
 rintro e w2 ⟨rfl, tv', B2, o2, f2, u2⟩
 have S2 := sB _ _ R1 u2
 obtain ⟨p2, R2, hm2, hnow⟩ := hB w2 S2
 have HH : Hid (∀ ww, RdAt ww r d p2 → qC 49 #[.pointer (some ⟨d, 5, none⟩), .string p2.t] ww (.tuple #[])) := fun ww h1 => hKeep_same r d p2 ww h1 hnow
 have hm2q : (p2.mode != 1) = true := by simp [hm2]
 have hm2' : (p2.mode == 1) = false := by simp [hm2]
 have e0 := B2.c0
 have e1 := R2.bg.c0
 have e2 := R2.dk.c3
 clear f2 o2 hm2 hnow
 go_wp2_with fail
 refine Calls.mono (HE.out _ _ B2) ?_
 rintro e w3 ⟨rfl, B3, u3⟩
 have R3 : RdAt w3 r d p2 := R2.upd u3 (by simp; exact fun e => hbr e.symm) (by simp; exact fun e => hbd e.symm)
 have S3 := sB _ _ S2 (u3.mono qi)
 have g0 := B3.c0
 have g1 := R3.bg.c0
 have g2 := R3.dk.c0
 have H := R3
 go_wp2_with fail
 go_region_held3 (fun ww => ww.cell? ⟨b, 0, none⟩ = some (.pointer (some ⟨r, 0, none⟩)) ∧ ww.cell? ⟨r, 0, none⟩ = some (.pointer (some ⟨d, 0, none⟩)) ∧ ww.cell? ⟨d, 0, none⟩ = some (.string p2.t)) (exact qK) ((go_at_call 49; refine Calls.mono (HH.out _ qRd) ?_; rintro r4 w4 ⟨rfl, h4⟩; have hz4 := h4.size; (try simp at hz4); (try have ⟨hl4_0, hk4_0⟩ := qL b w4.heap.size); (try have ⟨hl4_1, hk4_1⟩ := qL d w4.heap.size); (try have ⟨hl4_2, hk4_2⟩ := qL r w4.heap.size)))
 go_wp2
 go_ret
 have B4 := (B3.drew).below h4
 refine ⟨rfl, fB _ _ (fB _ _ S3 ((Below.refl _ _).drew)) h4, B4, ?_⟩
 refine Upd.below (Upd.drew ?_) h4
 exact ((u1.mono (by intro k hk; simp [hk])).trans (u2.mono (by intro k hk; simp only [List.mem_cons, List.mem_append] at hk ⊢; rcases hk with hk | hk <;> simp [hk]))).trans (u3.mono qi)
