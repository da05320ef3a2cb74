/- Joined of the texts ModesM. -/
import Derived.Test.YtlendfhehhacpaaGreatP09
set_option linter.unusedVariables false
set_option linter.unusedSimpArgs false
set_option maxRecDepth 100000
set_option maxHeartbeats 8000000
namespace Go.Proofs.YtlendfhehhacpaaGreat
open Go.RowKit
structure NbAt (w : World) (b r d : Nat) (p : Pg) (tv : Value) (n : Nat) (dg : ByteArray) : Prop where
  bd : BdAt w b r d tv dg
  rd : RdAt w r d p
  ow : ∃ xs, w.ownsRow 0 5 1 tv n xs
  br : b ≠ r
  bd' : b ≠ d
  tb : tv.ownBlock ≠ some b
  tr : tv.ownBlock ≠ some r
  td : tv.ownBlock ≠ some d
def blks (b r d : Nat) (tv : Value) : List Nat := b :: r :: d :: own tv
theorem mem_own {tv : Value} {k : Nat} : k ∈ own tv ↔ tv.ownBlock = some k := by
  unfold own
  cases tv.ownBlock <;> simp [eq_comm]
abbrev TakesR (b r d : Nat) (tv : Value) (dg : ByteArray) (key : Int) (p p2 : Pg) (O : Int) : Prop :=
  Hid (∀ ww, BdAt ww b r d tv dg → RdAt ww r d p → Calls Tryz.prog 46 #[.pointer (some ⟨b, 0, none⟩), .int .u8 key] ww fun e w' => e = .returned (.int .i64 O) ∧ RdAt w' r d p2 ∧ Upd [r, d] ww w')
theorem press_normal_more (b r d : Nat) (p p2 : Pg) (tv : Value) (n : Nat) (dg : ByteArray) (key : Int) (w : World) (h : NbAt w b r d p tv n dg) (hm : p.mode = 0) (hn : n ≤ 17592186044416) (HT : TakesR b r d tv dg key p p2 0) :
    Calls Tryz.prog 38 #[.pointer (some ⟨b, 0, none⟩), .int .u8 key] w fun e w' => e = .returned (.int .i64 0) ∧ ∃ tv', NbAt w' b r d p2 tv' (n + 1) dg ∧ (tv'.ownBlock = tv.ownBlock ∨ ∃ g, tv'.ownBlock = some g ∧ w.heap.size ≤ g) ∧ Upd (blks b r d tv) w w' := by
  obtain ⟨HB, HR, ⟨xs, ho⟩, hbr, hbd, htb, htr, htd⟩ := h
  have HK : Hid (∀ ww, BdAt ww b r d tv dg → ww.ownsRow 0 5 1 tv n xs → Calls Tryz.prog 47 #[.pointer (some ⟨b, 1, none⟩), .int .u8 key, .int .i64 0] ww fun e w' => e = .returned (.tuple #[]) ∧ ∃ tv', BdAt w' b r d tv' dg ∧ w'.ownsRow 0 5 1 tv' (n + 1) (xs ++ [.int .u8 key]) ∧ (tv'.ownBlock = tv.ownBlock ∨ ∃ g, tv'.ownBlock = some g ∧ ww.heap.size ≤ g) ∧ Upd (b :: own tv) ww w') := fun ww h1 h2 => mKeep_normal b r d tv dg key n xs ww h1 htb h2 hn
  have b0 := HB.c0
  have r0 := HR.bg.c0
  have d3 := HR.dk.c3
  rw [hm] at d3
  have bl := HB.lt
  have rl := HR.bg.lt
  have dl := HR.dk.lt
  have hdr := HR.ne
  clear hn
  go_enter Tryz.func38, Tryz.ntmps38
  go_wp2_with fail
  refine Calls.mono (HT.out _ HB HR) ?_
  rintro e w1 ⟨rfl, R1, u1⟩
  have B1 := HB.upd u1 (by simp [hbr, hbd])
  have o1 := ownsRow_upd ho u1 (by simp [htr, htd])
  go_wp2_with fail
  refine Calls.mono (HK.out _ B1 o1) ?_
  rintro e w2 ⟨rfl, tv', B2, o2, f2, u2⟩
  have R2 : RdAt w2 r d p2 := R1.upd u2 (by simp [mem_own, htr]; exact fun e => hbr e.symm) (by simp [mem_own, htd]; exact fun e => hbd e.symm)
  have hz1 := u1.size
  have F : Hid (tv'.ownBlock = tv.ownBlock ∨ ∃ g, tv'.ownBlock = some g ∧ w1.heap.size ≤ g) := f2
  clear f2
  go_wp2
  go_ret
  refine ⟨rfl, tv', ?_, ?_, ?_⟩
  · rcases F.out with hf | ⟨g, hg, hg2⟩
    · exact ⟨B2, R2, ⟨_, o2⟩, hbr, hbd, by rw [hf]; exact htb, by rw [hf]; exact htr, by rw [hf]; exact htd⟩
    · exact ⟨B2, R2, ⟨_, o2⟩, hbr, hbd, by rw [hg]; simp; omega, by rw [hg]; simp; omega, by rw [hg]; simp; omega⟩
  · rcases F.out with hf | ⟨g, hg, hg2⟩
    · exact Or.inl hf
    · exact Or.inr ⟨g, hg, by omega⟩
  · exact (u1.mono (by simp [blks])).trans (u2.mono (by intro k hk; simp only [blks, List.mem_cons] at hk ⊢; rcases hk with hk | hk <;> simp [hk]))
theorem press_normal_done (b r d : Nat) (p p2 : Pg) (tv : Value) (n : Nat) (dg : ByteArray) (key O : Int) (w : World) (h : NbAt w b r d p tv n dg) (hm : p.mode = 0) (hn : n ≤ 17592186044416) (hO0 : ¬ O = 0) (hO2 : ¬ O = 2) (hm2 : ¬ p2.mode = 1) (hnow : p2.now = p2.t) (HT : TakesR b r d tv dg key p p2 O) :
    Calls Tryz.prog 38 #[.pointer (some ⟨b, 0, none⟩), .int .u8 key] w fun e w' => e = .returned (.int .i64 O) ∧ NbAt w' b r d p2 (.slice none 0 0) 0 dg ∧ Upd (blks b r d tv) w w' := by
  obtain ⟨HB, HR, ⟨xs, ho⟩, hbr, hbd, htb, htr, htd⟩ := h
  have HK : Hid (∀ ww, BdAt ww b r d tv dg → ww.ownsRow 0 5 1 tv n xs → Calls Tryz.prog 47 #[.pointer (some ⟨b, 1, none⟩), .int .u8 key, .int .i64 0] ww fun e w' => e = .returned (.tuple #[]) ∧ ∃ tv', BdAt w' b r d tv' dg ∧ w'.ownsRow 0 5 1 tv' (n + 1) (xs ++ [.int .u8 key]) ∧ (tv'.ownBlock = tv.ownBlock ∨ ∃ g, tv'.ownBlock = some g ∧ ww.heap.size ≤ g) ∧ Upd (b :: own tv) ww w') := fun ww h1 h2 => mKeep_normal b r d tv dg key n xs ww h1 htb h2 hn
  have HE : Hid (∀ tv' ww, BdAt ww b r d tv' dg → Calls Tryz.prog 48 #[.pointer (some ⟨b, 1, none⟩), .int .i64 O] ww fun e w' => e = .returned (.tuple #[]) ∧ BdAt w' b r d (.slice none 0 0) dg ∧ Upd [b] ww w') := fun tv' ww h1 => mEnd b r d tv' dg O ww h1 hO2
  have HH : Hid (∀ ww, RdAt ww r d p2 → Calls Tryz.prog 49 #[.pointer (some ⟨d, 5, none⟩), .string p2.t] ww fun e w' => e = .returned (.tuple #[]) ∧ Below ww.heap.size ww w') := fun ww h1 => hKeep_same r d p2 ww h1 hnow
  have b0 := HB.c0
  have r0 := HR.bg.c0
  have d3 := HR.dk.c3
  rw [hm] at d3
  have bl := HB.lt
  have rl := HR.bg.lt
  have dl := HR.dk.lt
  have hO0' : (O == 0) = false := by simp [hO0]
  have hO0q : (O != 0) = true := by simp [hO0]
  have hm2q : (p2.mode != 1) = true := by simp [hm2]
  have hm2' : (p2.mode == 1) = false := by simp [hm2]
  clear hn hnow hO0 hO2 hm2
  go_enter Tryz.func38, Tryz.ntmps38
  go_wp2_with fail
  refine Calls.mono (HT.out _ HB HR) ?_
  rintro e w1 ⟨rfl, R1, u1⟩
  have B1 := HB.upd u1 (by simp [hbr, hbd])
  have o1 := ownsRow_upd ho u1 (by simp [htr, htd])
  go_wp2_with fail
  refine Calls.mono (HK.out _ B1 o1) ?_
  rintro e w2 ⟨rfl, tv', B2, o2, f2, u2⟩
  have R2 : RdAt w2 r d p2 := R1.upd u2 (by simp [mem_own, htr]; exact fun e => hbr e.symm) (by simp [mem_own, htd]; exact fun e => hbd e.symm)
  have e0 := B2.c0
  have e1 := R2.bg.c0
  have e2 := R2.dk.c3
  clear f2 o2
  go_wp2_with fail
  refine Calls.mono (HE.out _ _ B2) ?_
  rintro e w3 ⟨rfl, B3, u3⟩
  have R3 : RdAt w3 r d p2 := R2.upd u3 (by simp; exact fun e => hbr e.symm) (by simp; exact fun e => hbd e.symm)
  have g0 := B3.c0
  have g1 := R3.bg.c0
  have g2 := R3.dk.c0
  have H := R3
  go_wp2_with fail
  go_region_held3 (fun ww => ww.cell? ⟨b, 0, none⟩ = some (.pointer (some ⟨r, 0, none⟩)) ∧ ww.cell? ⟨r, 0, none⟩ = some (.pointer (some ⟨d, 0, none⟩)) ∧ ww.cell? ⟨d, 0, none⟩ = some (.string p2.t)) ((refine ⟨?_, ?_, ?_⟩ <;> (first | (go_simp; done) | ((repeat (first | with_reducible assumption | (with_reducible refine memLater ((Below.refl _ _).alloc (Nat.le_refl _) _) ?_) | (with_reducible refine memLater ((Below.refl _ _).drew) ?_) | (with_reducible refine memLater h4 ?_) | (with_reducible refine (memSet (by omega)).trans ?_) | (go_simp; done))); done)))) ((go_at_call 49; refine Calls.mono (HH.out _ (by (repeat (with_reducible first | exact H | refine RdAt.alloc ?_ _ | refine RdAt.drewN ?_ _ | refine RdAt.drew ?_ | refine r_o ?_ _)))) ?_; rintro r4 w4 ⟨rfl, h4⟩; have hz4 := h4.size; (try simp at hz4); (try have hl4_0 : b < w4.heap.size := (by omega)); (try have hk4_0 : b < w4.heap.size + 1 := (by omega)); (try have hl4_1 : d < w4.heap.size := (by omega)); (try have hk4_1 : d < w4.heap.size + 1 := (by omega)); (try have hl4_2 : r < w4.heap.size := (by omega)); (try have hk4_2 : r < w4.heap.size + 1 := (by omega))))
  go_wp2
  go_ret
  have B4 := (B3.drew).below h4
  have R4 := (R3.drew).below h4
  refine ⟨rfl, ⟨B4, R4, ⟨_, World.ownsRow_nil _ _ _ _⟩, hbr, hbd, by simp [Value.ownBlock], by simp [Value.ownBlock], by simp [Value.ownBlock]⟩, ?_⟩
  refine Upd.below (Upd.drew ?_) h4
  exact ((u1.mono (by simp [blks])).trans (u2.mono (by intro k hk; simp only [blks, List.mem_cons] at hk ⊢; rcases hk with hk | hk <;> simp [hk]))).trans (u3.mono (by simp [blks]))
theorem press_mark_more (b r d : Nat) (p p2 : Pg) (tv : Value) (n : Nat) (dg : ByteArray) (key : Int) (w : World) (h : NbAt w b r d p tv n dg) (hm : p.mode = 2 ∨ p.mode = 3) (HT : TakesR b r d tv dg key p p2 0) :
    Calls Tryz.prog 38 #[.pointer (some ⟨b, 0, none⟩), .int .u8 key] w fun e w' => e = .returned (.int .i64 0) ∧ NbAt w' b r d p2 tv n dg ∧ Upd (blks b r d tv) w w' := by
  obtain ⟨HB, HR, ⟨xs, ho⟩, hbr, hbd, htb, htr, htd⟩ := h
  have HK : Hid (∀ ww, BdAt ww b r d tv dg → Calls Tryz.prog 47 #[.pointer (some ⟨b, 1, none⟩), .int .u8 key, .int .i64 p.mode] ww fun e w' => e = .returned (.tuple #[]) ∧ Below ww.heap.size ww w') := fun ww h1 => mKeep_not b r d tv dg key p.mode ww h1 hm
  have b0 := HB.c0
  have r0 := HR.bg.c0
  have d3 := HR.dk.c3
  have bl := HB.lt
  have rl := HR.bg.lt
  have dl := HR.dk.lt
  have hdr := HR.ne
  clear hm
  go_enter Tryz.func38, Tryz.ntmps38
  go_wp2_with fail
  refine Calls.mono (HT.out _ HB HR) ?_
  rintro e w1 ⟨rfl, R1, u1⟩
  have B1 := HB.upd u1 (by simp [hbr, hbd])
  have o1 := ownsRow_upd ho u1 (by simp [htr, htd])
  go_wp2_with fail
  refine Calls.mono (HK.out _ B1) ?_
  rintro e w2 ⟨rfl, h2⟩
  have B2 := B1.below h2
  have R2 : RdAt w2 r d p2 := R1.below h2
  have hz1 := u1.size
  go_wp2
  go_ret
  refine ⟨rfl, ⟨B2, R2, ⟨xs, ownsRow_upd o1 (Upd.of_below (S := []) h2) (by simp)⟩, hbr, hbd, htb, htr, htd⟩, ?_⟩
  exact (u1.mono (by simp [blks])).below h2
theorem press_mark_done (b r d : Nat) (p p2 : Pg) (tv : Value) (n : Nat) (dg : ByteArray) (key O : Int) (w : World) (h : NbAt w b r d p tv n dg) (hm : p.mode = 2 ∨ p.mode = 3) (hO0 : ¬ O = 0) (hO2 : ¬ O = 2) (hm2 : ¬ p2.mode = 1) (hnow : p2.now = p2.t) (HT : TakesR b r d tv dg key p p2 O) :
    Calls Tryz.prog 38 #[.pointer (some ⟨b, 0, none⟩), .int .u8 key] w fun e w' => e = .returned (.int .i64 O) ∧ NbAt w' b r d p2 (.slice none 0 0) 0 dg ∧ Upd (blks b r d tv) w w' := by
  obtain ⟨HB, HR, ⟨xs, ho⟩, hbr, hbd, htb, htr, htd⟩ := h
  have HK : Hid (∀ ww, BdAt ww b r d tv dg → Calls Tryz.prog 47 #[.pointer (some ⟨b, 1, none⟩), .int .u8 key, .int .i64 p.mode] ww fun e w' => e = .returned (.tuple #[]) ∧ Below ww.heap.size ww w') := fun ww h1 => mKeep_not b r d tv dg key p.mode ww h1 hm
  have HE : Hid (∀ tv' ww, BdAt ww b r d tv' dg → Calls Tryz.prog 48 #[.pointer (some ⟨b, 1, none⟩), .int .i64 O] ww fun e w' => e = .returned (.tuple #[]) ∧ BdAt w' b r d (.slice none 0 0) dg ∧ Upd [b] ww w') := fun tv' ww h1 => mEnd b r d tv' dg O ww h1 hO2
  have HH : Hid (∀ ww, RdAt ww r d p2 → Calls Tryz.prog 49 #[.pointer (some ⟨d, 5, none⟩), .string p2.t] ww fun e w' => e = .returned (.tuple #[]) ∧ Below ww.heap.size ww w') := fun ww h1 => hKeep_same r d p2 ww h1 hnow
  have b0 := HB.c0
  have r0 := HR.bg.c0
  have d3 := HR.dk.c3
  have bl := HB.lt
  have rl := HR.bg.lt
  have dl := HR.dk.lt
  have hO0' : (O == 0) = false := by simp [hO0]
  have hO0q : (O != 0) = true := by simp [hO0]
  have hm2q : (p2.mode != 1) = true := by simp [hm2]
  have hm2' : (p2.mode == 1) = false := by simp [hm2]
  clear hm hnow hO0 hO2 hm2
  go_enter Tryz.func38, Tryz.ntmps38
  go_wp2_with fail
  refine Calls.mono (HT.out _ HB HR) ?_
  rintro e w1 ⟨rfl, R1, u1⟩
  have B1 := HB.upd u1 (by simp [hbr, hbd])
  have o1 := ownsRow_upd ho u1 (by simp [htr, htd])
  go_wp2_with fail
  refine Calls.mono (HK.out _ B1) ?_
  rintro e w2 ⟨rfl, h2⟩
  have B2 := B1.below h2
  have R2 : RdAt w2 r d p2 := R1.below h2
  have e0 := B2.c0
  have e1 := R2.bg.c0
  have e2 := R2.dk.c3
  go_wp2_with fail
  refine Calls.mono (HE.out _ _ B2) ?_
  rintro e w3 ⟨rfl, B3, u3⟩
  have R3 : RdAt w3 r d p2 := R2.upd u3 (by simp; exact fun e => hbr e.symm) (by simp; exact fun e => hbd e.symm)
  have g0 := B3.c0
  have g1 := R3.bg.c0
  have g2 := R3.dk.c0
  have H := R3
  go_wp2_with fail
  go_region_held3 (fun ww => ww.cell? ⟨b, 0, none⟩ = some (.pointer (some ⟨r, 0, none⟩)) ∧ ww.cell? ⟨r, 0, none⟩ = some (.pointer (some ⟨d, 0, none⟩)) ∧ ww.cell? ⟨d, 0, none⟩ = some (.string p2.t)) ((refine ⟨?_, ?_, ?_⟩ <;> (first | (go_simp; done) | ((repeat (first | with_reducible assumption | (with_reducible refine memLater ((Below.refl _ _).alloc (Nat.le_refl _) _) ?_) | (with_reducible refine memLater ((Below.refl _ _).drew) ?_) | (with_reducible refine memLater h4 ?_) | (with_reducible refine (memSet (by omega)).trans ?_) | (go_simp; done))); done)))) ((go_at_call 49; refine Calls.mono (HH.out _ (by (repeat (with_reducible first | exact H | refine RdAt.alloc ?_ _ | refine RdAt.drewN ?_ _ | refine RdAt.drew ?_ | refine r_o ?_ _)))) ?_; rintro r4 w4 ⟨rfl, h4⟩; have hz4 := h4.size; (try simp at hz4); (try have hl4_0 : b < w4.heap.size := (by omega)); (try have hk4_0 : b < w4.heap.size + 1 := (by omega)); (try have hl4_1 : d < w4.heap.size := (by omega)); (try have hk4_1 : d < w4.heap.size + 1 := (by omega)); (try have hl4_2 : r < w4.heap.size := (by omega)); (try have hk4_2 : r < w4.heap.size + 1 := (by omega))))
  go_wp2
  go_ret
  have B4 := (B3.drew).below h4
  have R4 := (R3.drew).below h4
  refine ⟨rfl, ⟨B4, R4, ⟨_, World.ownsRow_nil _ _ _ _⟩, hbr, hbd, by simp [Value.ownBlock], by simp [Value.ownBlock], by simp [Value.ownBlock]⟩, ?_⟩
  refine Upd.below (Upd.drew ?_) h4
  exact ((u1.mono (by simp [blks])).trans (Upd.of_below h2)).trans (u3.mono (by simp [blks]))
end Go.Proofs.YtlendfhehhacpaaGreat
