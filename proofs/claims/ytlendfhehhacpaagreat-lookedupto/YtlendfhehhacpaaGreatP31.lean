/- Joined of the texts WaysM, WaysH, WaysK. -/
import Derived.Test.YtlendfhehhacpaaGreatP30
import Derived.Test.YtlendfhehhacpaaGreatP03
import Derived.Test.YtlendfhehhacpaaGreatP23
import Derived.Test.YtlendfhehhacpaaGreatP02
set_option linter.unusedVariables false
set_option linter.unusedSimpArgs false
set_option maxRecDepth 100000
set_option maxHeartbeats 8000000
namespace Go.Proofs.YtlendfhehhacpaaGreat
open Go.RowKit
theorem sStepAhead_any (s : ByteArray) (r : Nat) (g : Bool) (w : World) (hs : s.size ≤ 1000) (hr : r ≤ s.size) :
    Calls Tryz.prog 251 #[.string s, .int .i64 r, .bool g] w fun e w' => e = .returned (.int .i64 (Nib.bstep s g r)) ∧ Below w.heap.size w w' := by
  by_cases he : r = 0
  · subst he
    have e : Nib.bstep s g 0 = 0 := by unfold Nib.bstep; rw [if_pos rfl]
    rw [e]
    clear e
    go_enter Tryz.func251, Tryz.ntmps251
    go_wp2
    all_goals
      first
        | (refine bodyPost_ret (v := .int .i64 0) (by simp [results, Tryz.results251, go_sem]) rfl ⟨rfl, ?_⟩ <;> repeat (with_reducible first | exact Below.refl _ _ | refine b_s ?_ _ | refine b_a ?_ _ | refine Below.drew ?_ | refine below_drewN ?_ _))
  · have HI : Hid (∀ ww, Calls Tryz.prog 283 #[.string s, .int .i64 ((r : Int) - 1)] ww fun e w' => e = .returned (.int .i64 (Nib.bto s r : Nat)) ∧ Below ww.heap.size ww w') := by
      intro ww
      have := sInkAhead_any s (r - 1) ww hs (by omega)
      rw [show ((r - 1 : Nat) : Int) = (r : Int) - 1 by omega] at this
      exact this
    have hb := Nib.bto_le s r
    have hne : ((r : Int) == 0) = false := by simp; omega
    rw [Nib.bstep_run (by omega) hr]
    by_cases h10 : Nib.bt s (Nib.bto s r) = 10
    · rw [if_pos h10]
      generalize Nib.bto s r = B at *
      have HR : Hid (∀ ww, Calls Tryz.prog 256 #[.string s, .int .i64 B, .bool g] ww fun e w' => e = .returned (.agg #[.int .i64 (B), .int .i64 (B)]) ∧ Below ww.heap.size ww w') := fun ww => tRun_none s B B g ww hs rfl (by omega) (fun _ => h10)
      clear h10
      have hx := ix0 B B
      go_enter Tryz.func251, Tryz.ntmps251
      go_wp2_with fail
      refine (HI.out _).mono ?_
      rintro e w1 ⟨rfl, h1⟩
      obtain ⟨hc1, hf1⟩ := bcell h1
      have hz1 := h1.size
      try simp at hz1
      go_wp2_with fail
      refine (HR.out _).mono ?_
      rintro e w2 ⟨rfl, h2⟩
      obtain ⟨hc2, hf2⟩ := bcell h2
      have hz2 := h2.size
      try simp at hz2
      go_wp2
      all_goals
        first
          | (refine bodyPost_ret (v := .int .i64 B) (by simp [results, Tryz.results251, go_sem]) rfl ⟨rfl, ?_⟩ <;> repeat (with_reducible first | exact Below.refl _ _ | refine b_s ?_ _ | refine b_a ?_ _ | refine Below.drew ?_ | refine below_drewN ?_ _ | refine b_t ?_ h2 | refine b_t ?_ h1))
    · rw [if_neg h10]
      generalize Nib.bto s r = B at *
      have HR : Hid (∀ ww, Calls Tryz.prog 256 #[.string s, .int .i64 B, .bool g] ww fun e w' => e = .returned (.agg #[.int .i64 (Nib.runB s B g), .int .i64 (Nib.wrun s B g)]) ∧ Below ww.heap.size ww w') := fun ww => tRun_any s B B g ww hs rfl (by omega) h10
      clear h10
      have hx := ix0 (Nib.runB s B g) (Nib.wrun s B g)
      generalize Nib.runB s B g = C at *
      generalize Nib.wrun s B g = D at *
      go_enter Tryz.func251, Tryz.ntmps251
      go_wp2_with fail
      refine (HI.out _).mono ?_
      rintro e w1 ⟨rfl, h1⟩
      obtain ⟨hc1, hf1⟩ := bcell h1
      have hz1 := h1.size
      try simp at hz1
      go_wp2_with fail
      refine (HR.out _).mono ?_
      rintro e w2 ⟨rfl, h2⟩
      obtain ⟨hc2, hf2⟩ := bcell h2
      have hz2 := h2.size
      try simp at hz2
      go_wp2
      all_goals
        first
          | (refine bodyPost_ret (v := .int .i64 C) (by simp [results, Tryz.results251, go_sem]) rfl ⟨rfl, ?_⟩ <;> repeat (with_reducible first | exact Below.refl _ _ | refine b_s ?_ _ | refine b_a ?_ _ | refine Below.drew ?_ | refine below_drewN ?_ _ | refine b_t ?_ h2 | refine b_t ?_ h1))
theorem sToAhead_any (s : ByteArray) (p n : Nat) (v c g : Bool) (w : World) (hs : s.size ≤ 1000) (hp : p ≤ s.size) (hn : n ≤ 99) :
    Calls Tryz.prog 209 #[.agg #[.string s, .int .i64 (p), .int .i64 (n), .bool v, .bool c], .bool g] w fun e w' => e = .returned (.tuple #[.agg #[.int .i64 (wayX (Nib.wayB s p (max n 1) g)), .int .i64 (wayK (Nib.wayB s p (max n 1) g))], .bool (wayZ (Nib.wayB s p (max n 1) g))]) ∧ Below w.heap.size w w' := by
  have HP : Hid (∀ (q : Nat), q ≤ s.size → ∀ ww, Calls Tryz.prog 251 #[.string s, .int .i64 q, .bool g] ww fun e w' => e = .returned (.int .i64 (Nib.bstep s g q)) ∧ Below ww.heap.size ww w') := fun q hq ww => sStepAhead_any s q g ww hs hq
  have HN : Hid (∀ ww, Calls Tryz.prog 241 #[.agg #[.string s, .int .i64 (p), .int .i64 (n), .bool v, .bool c]] ww fun e w' => e = .returned (.int .i64 ((max n 1 : Nat) : Int)) ∧ Below ww.heap.size ww w') := by
    intro ww
    have := sNumber_any s p n v c ww
    rw [show max (n : Int) 1 = ((max n 1 : Nat) : Int) by omega] at this
    exact this
  have hN1 : 1 ≤ max n 1 := by omega
  have hN2 : max n 1 ≤ 99 := by omega
  generalize max n 1 = N at *
  have HU : Hid (∀ ww, Calls Tryz.prog 240 #[.agg #[.string s, .int .i64 (p), .int .i64 (n), .bool v, .bool c], .int .i64 (Nib.itr (Nib.bstep s g) N p : Nat), .int .i64 0] ww fun e w' => e = .returned (.tuple #[.agg #[.int .i64 (wayX (Nib.wayB s p N g)), .int .i64 (wayK (Nib.wayB s p N g))], .bool (wayZ (Nib.wayB s p N g))]) ∧ Below ww.heap.size ww w') := by
    intro ww
    refine sUnless_way s p n _ 0 v c ww ?_
    exact ⟨Nib.wayB_eq s p N g hN1, fun _ => ⟨rfl, rfl⟩⟩
  generalize Nib.wayB s p N g = R at *
  go_enter Tryz.func209, Tryz.ntmps209
  have F : Five ((w.alloc (.cells #[.string s, .int .i64 (p), .int .i64 (n), .bool v, .bool c] 206)).alloc (.cells #[.int .i64 0, .int .i64 0] 202)) w.heap.size s p n v c := Five.alloc (Five.new _ _ _ _ _ _ _) _
  have RB : Two ((w.alloc (.cells #[.string s, .int .i64 (p), .int .i64 (n), .bool v, .bool c] 206)).alloc (.cells #[.int .i64 0, .int .i64 0] 202)) (w.heap.size + 1) 0 0 := by have := Two.new (w.alloc (.cells #[.string s, .int .i64 (p), .int .i64 (n), .bool v, .bool c] 206)) 0 0 202; simpa using this
  go_wp2_with fail
  refine (HN.out _).mono ?_
  rintro r1 w1 ⟨rfl, h1⟩
  obtain ⟨hc1, hf1⟩ := bcell h1
  have hz1 := h1.size
  (try simp at hz1)
  have F1 : Five w1 (w.heap.size) s p n v c := (by repeat (with_reducible first | exact F | refine f_o ?_ _ | refine Five.alloc ?_ _ | refine Five.drewN ?_ _ | refine Five.drew ?_ | refine Five.below ?_ h1))
  have F1_0 := F1.c0
  have F1_1 := F1.c1
  have F1_2 := F1.c2
  have F1_3 := F1.c3
  have F1_4 := F1.c4
  have F1_z := F1.fz
  have F1_l := F1.lt
  have RB1 : Two w1 (w.heap.size + 1) (0) (0) := (by repeat (with_reducible first | exact RB | refine t_o ?_ _ | refine Two.alloc ?_ _ | refine Two.drewN ?_ _ | refine Two.drew ?_ | refine Two.below ?_ h1))
  have RB1_0 := RB1.c0
  have RB1_1 := RB1.c1
  have RB1_z := RB1.fz
  have RB1_l := RB1.lt
  go_wp2
  go_loopw [6, 11] (fun q i wr => ∃ k : Nat, k ≤ N ∧ q = .int .i64 (Nib.itr (Nib.bstep s g) k p : Nat) ∧ i = .int .i64 k ∧ Five wr w.heap.size s p n v c ∧ Two wr (w.heap.size + 1) 0 0 ∧ Below w.heap.size w wr) (fun _ i _ => N - (intOf i).toNat)
  case atStart =>
    refine ⟨0, by omega, rfl, rfl, F1, RB1, ?_⟩
    repeat (with_reducible first | exact Below.refl _ _ | refine b_s ?_ _ | refine b_a ?_ _ | refine Below.drew ?_ | refine below_drewN ?_ _ | refine b_t ?_ h1)
  case round =>
    clear F RB h1 hc1 hf1 F1_0 F1_1 F1_2 F1_3 F1_4 F1_z F1_l RB1_0 RB1_1 RB1_z RB1_l
    obtain ⟨k, hk, rfl, rfl, F, RB, hB⟩ := hrel
    have hq : Nib.itr (Nib.bstep s g) k p ≤ s.size := Nat.le_trans (Nib.itr_b_le k) hp
    have f0 := F.c0; have f1 := F.c1; have f2 := F.c2; have f3 := F.c3; have f4 := F.c4; have fz := F.fz; have fl := F.lt
    have r0 := (RB).c0
    have r1 := (RB).c1
    have rz := (RB).fz
    have rl := (RB).lt
    have hzz := hB.size
    by_cases hlt : k < N
    · have HS : Hid (∀ ww, Calls Tryz.prog 251 #[.string s, .int .i64 (Nib.itr (Nib.bstep s g) k p : Nat), .bool g] ww fun e w' => e = .returned (.int .i64 (Nib.itr (Nib.bstep s g) (k + 1) p : Nat)) ∧ Below ww.heap.size ww w') := fun ww => HP.out _ hq ww
      generalize hA : Nib.itr (Nib.bstep s g) (k + 1) p = A at *
      go_wp2_with fail
      refine (HS.out _).mono ?_
      rintro r2 w2 ⟨rfl, h2⟩
      obtain ⟨hc2, hf2⟩ := bcell h2
      have hz2 := h2.size
      (try simp at hz2)
      have F2 : Five w2 (w.heap.size) s p n v c := (by repeat (with_reducible first | exact F | refine f_o ?_ _ | refine Five.alloc ?_ _ | refine Five.drewN ?_ _ | refine Five.drew ?_ | refine Five.below ?_ h2))
      have F2_0 := F2.c0
      have F2_1 := F2.c1
      have F2_2 := F2.c2
      have F2_3 := F2.c3
      have F2_4 := F2.c4
      have F2_z := F2.fz
      have F2_l := F2.lt
      have RB2 : Two w2 (w.heap.size + 1) (0) (0) := (by repeat (with_reducible first | exact RB | refine t_o ?_ _ | refine Two.alloc ?_ _ | refine Two.drewN ?_ _ | refine Two.drew ?_ | refine Two.below ?_ h2))
      have RB2_0 := RB2.c0
      have RB2_1 := RB2.c1
      have RB2_z := RB2.fz
      have RB2_l := RB2.lt
      go_wp2
      go_round
      case rel =>
        refine ⟨k + 1, by omega, by rw [hA], by go_num, F2, RB2, ?_⟩
        repeat (with_reducible first | exact Below.refl _ _ | refine b_s ?_ _ | refine b_a ?_ _ | refine Below.drew ?_ | refine below_drewN ?_ _ | refine b_t ?_ h2 | refine b_t ?_ hB)
      case measure => simp [intOf] <;> omega
    · have ek : k = N := by omega
      subst ek
      generalize Nib.itr (Nib.bstep s g) k p = A at *
      go_wp2_with fail
      refine (HU.out _).mono ?_
      rintro r2 w2 ⟨rfl, h2⟩
      obtain ⟨hc2, hf2⟩ := bcell h2
      have hz2 := h2.size
      (try simp at hz2)
      have RB2 : Two w2 (w.heap.size + 1) (0) (0) := (by repeat (with_reducible first | exact RB | refine t_o ?_ _ | refine Two.alloc ?_ _ | refine Two.drewN ?_ _ | refine Two.drew ?_ | refine Two.below ?_ h2))
      have RB2_0 := RB2.c0
      have RB2_1 := RB2.c1
      have RB2_z := RB2.fz
      have RB2_l := RB2.lt
      go_wp2
      all_goals
        first
          | (refine bodyPost_ret (v := .tuple #[.agg #[.int .i64 (wayX (R)), .int .i64 (wayK (R))], .bool (wayZ (R))]) (by simp [results, Tryz.results209, go_sem, RB2_0, RB2_1, RB2_z, RB2_l]) rfl ⟨rfl, ?_⟩ <;> repeat (with_reducible first | exact Below.refl _ _ | refine b_s ?_ _ | refine b_a ?_ _ | refine Below.drew ?_ | refine below_drewN ?_ _ | refine b_t ?_ h2 | refine b_t ?_ hB))
theorem sWordStep_any (s : ByteArray) (r : Nat) (g : Bool) (w : World) (hs : s.size ≤ 1000) (hr : r ≤ s.size) :
    Calls Tryz.prog 249 #[.string s, .int .i64 r, .bool g] w fun e w' => e = .returned (.int .i64 (Nib.wstep s g r)) ∧ Below w.heap.size w w' := by
  have hw := Nib.wfrom_le (g := g) hr
  have HI : Hid (∀ ww, Calls Tryz.prog 282 #[.string s, .int .i64 (Nib.wfrom s r g : Nat), .bool true] ww fun e w' => e = .returned (.int .i64 (Nib.wstep s g r)) ∧ Below ww.heap.size ww w') := by
    intro ww
    refine sNextInk_any s (Nib.wfrom s r g) true (Nib.wgap s r) ww hs hw ?_ ?_ ?_
    · intro i h; exact Nib.wgap1 s r i h
    · intro i _ _ h h2
      refine Nib.wgap2 s r i g h ?_
      rcases h2 with h2 | h2 | h2
      · exact absurd h2 (by simp)
      · exact Or.inl h2
      · exact Or.inr h2
    · intro _ i h h2; exact Nib.wgap3 s r i g h h2
  have HK : Hid (∀ ww, Calls Tryz.prog 247 #[.string s, .int .i64 r] ww fun e w' => e = .returned (.bool (decide (r < s.size) && !Nib.spc (Nib.bt s r))) ∧ w' = ww) := fun ww => sHasInk_any s r r ww hs rfl hr
  generalize Nib.wstep s g r = X at *
  by_cases hk : r < s.size ∧ Nib.spc (Nib.bt s r) = false
  · have e1 : (decide (r < s.size) && !Nib.spc (Nib.bt s r)) = true := by rw [hk.2, decide_eq_true hk.1]; rfl
    have e2 : Nib.wfrom s r g = Nib.wrun s r g := by unfold Nib.wfrom; rw [if_pos hk]
    rw [e1] at HK
    rw [e2] at HI
    have hnl : Nib.bt s r ≠ 10 := by have := Nib.spc_nl_f hk.2; unfold Nib.nl at this; simpa using this
    have HR : Hid (∀ ww, Calls Tryz.prog 256 #[.string s, .int .i64 r, .bool g] ww fun e w' => e = .returned (.agg #[.int .i64 (Nib.runB s r g), .int .i64 (Nib.wrun s r g)]) ∧ Below ww.heap.size ww w') := fun ww => tRun_any s r r g ww hs rfl hk.1 hnl
    clear e1 e2 hk hnl hw
    have hx := ix1 (Nib.runB s r g) (Nib.wrun s r g)
    generalize Nib.runB s r g = A at *
    generalize Nib.wrun s r g = B at *
    go_enter Tryz.func249, Tryz.ntmps249
    go_wp2_with fail
    refine (HK.out _).mono ?_
    rintro e w' ⟨rfl, rfl⟩
    go_wp2_with fail
    refine (HR.out _).mono ?_
    rintro e w1 ⟨rfl, h1⟩
    obtain ⟨hc1, hf1⟩ := bcell h1
    have hz1 := h1.size
    try simp at hz1
    go_wp2_with fail
    refine (HI.out _).mono ?_
    rintro e w2 ⟨rfl, h2⟩
    obtain ⟨hc2, hf2⟩ := bcell h2
    have hz2 := h2.size
    try simp at hz2
    go_wp2
    all_goals
      first
        | (refine bodyPost_ret (v := .int .i64 X) (by simp [results, Tryz.results249, go_sem]) rfl ⟨rfl, ?_⟩ <;> repeat (with_reducible first | exact Below.refl _ _ | refine b_s ?_ _ | refine b_a ?_ _ | refine Below.drew ?_ | refine below_drewN ?_ _ | refine b_t ?_ h2 | refine b_t ?_ h1))
  · have e1 : (decide (r < s.size) && !Nib.spc (Nib.bt s r)) = false := by
      cases hs : Nib.spc (Nib.bt s r) with
      | true => simp
      | false => rw [hs] at hk; simp only [and_true] at hk; simp [hk]
    have e2 : Nib.wfrom s r g = r := by unfold Nib.wfrom; rw [if_neg hk]
    rw [e1] at HK
    rw [e2] at HI
    clear e1 e2 hk hw
    go_enter Tryz.func249, Tryz.ntmps249
    go_wp2_with fail
    refine (HK.out _).mono ?_
    rintro e w' ⟨rfl, rfl⟩
    go_wp2_with fail
    refine (HI.out _).mono ?_
    rintro e w2 ⟨rfl, h2⟩
    obtain ⟨hc2, hf2⟩ := bcell h2
    have hz2 := h2.size
    try simp at hz2
    go_wp2
    all_goals
      first
        | (refine bodyPost_ret (v := .int .i64 X) (by simp [results, Tryz.results249, go_sem]) rfl ⟨rfl, ?_⟩ <;> repeat (with_reducible first | exact Below.refl _ _ | refine b_s ?_ _ | refine b_a ?_ _ | refine Below.drew ?_ | refine below_drewN ?_ _ | refine b_t ?_ h2))
theorem sWordEnd_any (s : ByteArray) (r : Nat) (g : Bool) (w : World) (hs : s.size ≤ 1000) (hr : r ≤ s.size) :
    Calls Tryz.prog 252 #[.string s, .int .i64 r, .bool g] w fun e w' => e = .returned (.int .i64 (Nib.wes s g r)) ∧ Below w.heap.size w w' := by
  by_cases he : r = s.size
  · subst he
    rw [Nib.wes_end]
    go_enter Tryz.func252, Tryz.ntmps252
    go_wp2_with fail
    refine (tEnd_any s _).mono ?_
    rintro e w' ⟨rfl, rfl⟩
    go_wp2
    all_goals
      first
        | (refine bodyPost_ret (v := .int .i64 s.size) (by simp [results, Tryz.results252, go_sem]) rfl ⟨rfl, ?_⟩ <;> repeat (with_reducible first | exact Below.refl _ _ | refine b_s ?_ _ | refine b_a ?_ _ | refine Below.drew ?_ | refine below_drewN ?_ _))
  · have hlt : r < s.size := by omega
    have HI : Hid (∀ ww, Calls Tryz.prog 282 #[.string s, .int .i64 ((r : Int) + 1), .bool false] ww fun e w' => e = .returned (.int .i64 (Nib.up (Nib.sp s) s.size (r + 1) : Nat)) ∧ Below ww.heap.size ww w') := by
      intro ww
      refine sNextInk_any s (r + 1) false (Nib.sp s) ww hs (by omega) ?_ ?_ ?_
      · intro i h; exact h
      · intro i _ _ h _; exact h
      · intro h; exact absurd h (by simp)
    have hle : Nib.up (Nib.sp s) s.size (r + 1) ≤ s.size := Nib.up_le (by omega)
    rw [Nib.wes_eq hlt]
    have hne : ((r : Int) == (s.size : Int)) = false := by simp; omega
    clear he
    by_cases hq : Nib.up (Nib.sp s) s.size (r + 1) = s.size
    · rw [if_pos hq]
      rw [hq] at HI
      clear hq hle
      go_enter Tryz.func252, Tryz.ntmps252
      go_wp2_with fail
      refine (tEnd_any s _).mono ?_
      rintro e w' ⟨rfl, rfl⟩
      go_wp2_with fail
      refine (HI.out _).mono ?_
      rintro e w1 ⟨rfl, h1⟩
      obtain ⟨hc1, hf1⟩ := bcell h1
      have hz1 := h1.size
      try simp at hz1
      go_wp2_with fail
      refine (tEnd_any s _).mono ?_
      rintro e w' ⟨rfl, rfl⟩
      go_wp2
      all_goals
        first
          | (refine bodyPost_ret (v := .int .i64 r) (by simp [results, Tryz.results252, go_sem]) rfl ⟨rfl, ?_⟩ <;> repeat (with_reducible first | exact Below.refl _ _ | refine b_s ?_ _ | refine b_a ?_ _ | refine Below.drew ?_ | refine below_drewN ?_ _ | refine b_t ?_ h1))
    · rw [if_neg hq]
      have hql : Nib.up (Nib.sp s) s.size (r + 1) < s.size := by omega
      have hsp : Nib.sp s (Nib.up (Nib.sp s) s.size (r + 1)) = false := Nib.up_end hql
      generalize Nib.up (Nib.sp s) s.size (r + 1) = q at *
      have hnl : Nib.bt s q ≠ 10 := by have := Nib.spc_nl_f (s := s) (i := q) hsp; unfold Nib.nl at this; simpa using this
      have HR : Hid (∀ ww, Calls Tryz.prog 256 #[.string s, .int .i64 q, .bool g] ww fun e w' => e = .returned (.agg #[.int .i64 (Nib.runB s q g), .int .i64 (Nib.wrun s q g)]) ∧ Below ww.heap.size ww w') := fun ww => tRun_any s q q g ww hs rfl hql hnl
      have hgt := Nib.wrun_gt (g := g) hql
      have hwl := Nib.wrun_le (g := g) (show q ≤ s.size by omega)
      have hx := ix1 (Nib.runB s q g) (Nib.wrun s q g)
      clear hsp hnl
      generalize Nib.runB s q g = A at *
      generalize Nib.wrun s q g = B at *
      have hne2 : ((q : Int) == (s.size : Int)) = false := by simp; omega
      go_enter Tryz.func252, Tryz.ntmps252
      go_wp2_with fail
      refine (tEnd_any s _).mono ?_
      rintro e w' ⟨rfl, rfl⟩
      go_wp2_with fail
      refine (HI.out _).mono ?_
      rintro e w1 ⟨rfl, h1⟩
      obtain ⟨hc1, hf1⟩ := bcell h1
      have hz1 := h1.size
      try simp at hz1
      go_wp2_with fail
      refine (tEnd_any s _).mono ?_
      rintro e w' ⟨rfl, rfl⟩
      go_wp2_with fail
      refine (HR.out _).mono ?_
      rintro e w2 ⟨rfl, h2⟩
      obtain ⟨hc2, hf2⟩ := bcell h2
      have hz2 := h2.size
      try simp at hz2
      go_wp2
      all_goals
        first
          | (refine bodyPost_ret (v := .int .i64 ((B : Int) - 1)) (by simp [results, Tryz.results252, go_sem]) rfl ⟨ret_int (by omega), ?_⟩ <;> repeat (with_reducible first | exact Below.refl _ _ | refine b_s ?_ _ | refine b_a ?_ _ | refine Below.drew ?_ | refine below_drewN ?_ _ | refine b_t ?_ h2 | refine b_t ?_ h1))
theorem sToWordEnd_any (s : ByteArray) (p n : Nat) (v c g : Bool) (w : World) (hs : s.size ≤ 1000) (hp : p ≤ s.size) (hn : n ≤ 99) :
    Calls Tryz.prog 210 #[.agg #[.string s, .int .i64 (p), .int .i64 (n), .bool v, .bool c], .bool g] w fun e w' => e = .returned (.tuple #[.agg #[.int .i64 (wayX (Nib.endWay s g (max n 1) (p : Int))), .int .i64 (wayK (Nib.endWay s g (max n 1) (p : Int)))], .bool (wayZ (Nib.endWay s g (max n 1) (p : Int)))]) ∧ Below w.heap.size w w' := by
  have HP : Hid (∀ (q : Nat), q ≤ s.size → ∀ ww, Calls Tryz.prog 252 #[.string s, .int .i64 q, .bool g] ww fun e w' => e = .returned (.int .i64 (Nib.wes s g q)) ∧ Below ww.heap.size ww w') := fun q hq ww => sWordEnd_any s q g ww hs hq
  have HN : Hid (∀ ww, Calls Tryz.prog 241 #[.agg #[.string s, .int .i64 (p), .int .i64 (n), .bool v, .bool c]] ww fun e w' => e = .returned (.int .i64 ((max n 1 : Nat) : Int)) ∧ Below ww.heap.size ww w') := by
    intro ww
    have := sNumber_any s p n v c ww
    rw [show max (n : Int) 1 = ((max n 1 : Nat) : Int) by omega] at this
    exact this
  have hN1 : 1 ≤ max n 1 := by omega
  have hN2 : max n 1 ≤ 99 := by omega
  generalize max n 1 = N at *
  have HU : Hid (∀ ww, Calls Tryz.prog 240 #[.agg #[.string s, .int .i64 (p), .int .i64 (n), .bool v, .bool c], .int .i64 (Nib.itr (Nib.wes s g) N p : Nat), .int .i64 1] ww fun e w' => e = .returned (.tuple #[.agg #[.int .i64 (wayX (Nib.endWay s g N (p : Int))), .int .i64 (wayK (Nib.endWay s g N (p : Int)))], .bool (wayZ (Nib.endWay s g N (p : Int)))]) ∧ Below ww.heap.size ww w') := by
    intro ww
    refine sUnless_way s p n _ 1 v c ww ?_
    have := Nib.endWay_itr s g p N hN1
    exact ⟨this.1.symm, fun h => ⟨(this.2 (this.1.trans h)).1.symm, (this.2 (this.1.trans h)).2.symm⟩⟩
  generalize Nib.endWay s g N (p : Int) = R at *
  go_enter Tryz.func210, Tryz.ntmps210
  have F : Five ((w.alloc (.cells #[.string s, .int .i64 (p), .int .i64 (n), .bool v, .bool c] 206)).alloc (.cells #[.int .i64 0, .int .i64 0] 202)) w.heap.size s p n v c := Five.alloc (Five.new _ _ _ _ _ _ _) _
  have RB : Two ((w.alloc (.cells #[.string s, .int .i64 (p), .int .i64 (n), .bool v, .bool c] 206)).alloc (.cells #[.int .i64 0, .int .i64 0] 202)) (w.heap.size + 1) 0 0 := by have := Two.new (w.alloc (.cells #[.string s, .int .i64 (p), .int .i64 (n), .bool v, .bool c] 206)) 0 0 202; simpa using this
  go_wp2_with fail
  refine (HN.out _).mono ?_
  rintro r1 w1 ⟨rfl, h1⟩
  obtain ⟨hc1, hf1⟩ := bcell h1
  have hz1 := h1.size
  (try simp at hz1)
  have F1 : Five w1 (w.heap.size) s p n v c := (by repeat (with_reducible first | exact F | refine f_o ?_ _ | refine Five.alloc ?_ _ | refine Five.drewN ?_ _ | refine Five.drew ?_ | refine Five.below ?_ h1))
  have F1_0 := F1.c0
  have F1_1 := F1.c1
  have F1_2 := F1.c2
  have F1_3 := F1.c3
  have F1_4 := F1.c4
  have F1_z := F1.fz
  have F1_l := F1.lt
  have RB1 : Two w1 (w.heap.size + 1) (0) (0) := (by repeat (with_reducible first | exact RB | refine t_o ?_ _ | refine Two.alloc ?_ _ | refine Two.drewN ?_ _ | refine Two.drew ?_ | refine Two.below ?_ h1))
  have RB1_0 := RB1.c0
  have RB1_1 := RB1.c1
  have RB1_z := RB1.fz
  have RB1_l := RB1.lt
  go_wp2
  go_loopw [6, 11] (fun q i wr => ∃ k : Nat, k ≤ N ∧ q = .int .i64 (Nib.itr (Nib.wes s g) k p : Nat) ∧ i = .int .i64 k ∧ Five wr w.heap.size s p n v c ∧ Two wr (w.heap.size + 1) 0 0 ∧ Below w.heap.size w wr) (fun _ i _ => N - (intOf i).toNat)
  case atStart =>
    refine ⟨0, by omega, rfl, rfl, F1, RB1, ?_⟩
    repeat (with_reducible first | exact Below.refl _ _ | refine b_s ?_ _ | refine b_a ?_ _ | refine Below.drew ?_ | refine below_drewN ?_ _ | refine b_t ?_ h1)
  case round =>
    clear F RB h1 hc1 hf1 F1_0 F1_1 F1_2 F1_3 F1_4 F1_z F1_l RB1_0 RB1_1 RB1_z RB1_l
    obtain ⟨k, hk, rfl, rfl, F, RB, hB⟩ := hrel
    have hq := Nib.itr_wes_le (g := g) hp k
    have f0 := F.c0; have f1 := F.c1; have f2 := F.c2; have f3 := F.c3; have f4 := F.c4; have fz := F.fz; have fl := F.lt
    have r0 := (RB).c0
    have r1 := (RB).c1
    have rz := (RB).fz
    have rl := (RB).lt
    have hzz := hB.size
    by_cases hlt : k < N
    · have HS : Hid (∀ ww, Calls Tryz.prog 252 #[.string s, .int .i64 (Nib.itr (Nib.wes s g) k p : Nat), .bool g] ww fun e w' => e = .returned (.int .i64 (Nib.itr (Nib.wes s g) (k + 1) p : Nat)) ∧ Below ww.heap.size ww w') := fun ww => HP.out _ hq ww
      generalize hA : Nib.itr (Nib.wes s g) (k + 1) p = A at *
      go_wp2_with fail
      refine (HS.out _).mono ?_
      rintro r2 w2 ⟨rfl, h2⟩
      obtain ⟨hc2, hf2⟩ := bcell h2
      have hz2 := h2.size
      (try simp at hz2)
      have F2 : Five w2 (w.heap.size) s p n v c := (by repeat (with_reducible first | exact F | refine f_o ?_ _ | refine Five.alloc ?_ _ | refine Five.drewN ?_ _ | refine Five.drew ?_ | refine Five.below ?_ h2))
      have F2_0 := F2.c0
      have F2_1 := F2.c1
      have F2_2 := F2.c2
      have F2_3 := F2.c3
      have F2_4 := F2.c4
      have F2_z := F2.fz
      have F2_l := F2.lt
      have RB2 : Two w2 (w.heap.size + 1) (0) (0) := (by repeat (with_reducible first | exact RB | refine t_o ?_ _ | refine Two.alloc ?_ _ | refine Two.drewN ?_ _ | refine Two.drew ?_ | refine Two.below ?_ h2))
      have RB2_0 := RB2.c0
      have RB2_1 := RB2.c1
      have RB2_z := RB2.fz
      have RB2_l := RB2.lt
      go_wp2
      go_round
      case rel =>
        refine ⟨k + 1, by omega, by rw [hA], by go_num, F2, RB2, ?_⟩
        repeat (with_reducible first | exact Below.refl _ _ | refine b_s ?_ _ | refine b_a ?_ _ | refine Below.drew ?_ | refine below_drewN ?_ _ | refine b_t ?_ h2 | refine b_t ?_ hB)
      case measure => simp [intOf] <;> omega
    · have ek : k = N := by omega
      subst ek
      generalize Nib.itr (Nib.wes s g) k p = A at *
      go_wp2_with fail
      refine (HU.out _).mono ?_
      rintro r2 w2 ⟨rfl, h2⟩
      obtain ⟨hc2, hf2⟩ := bcell h2
      have hz2 := h2.size
      (try simp at hz2)
      have RB2 : Two w2 (w.heap.size + 1) (0) (0) := (by repeat (with_reducible first | exact RB | refine t_o ?_ _ | refine Two.alloc ?_ _ | refine Two.drewN ?_ _ | refine Two.drew ?_ | refine Two.below ?_ h2))
      have RB2_0 := RB2.c0
      have RB2_1 := RB2.c1
      have RB2_z := RB2.fz
      have RB2_l := RB2.lt
      go_wp2
      all_goals
        first
          | (refine bodyPost_ret (v := .tuple #[.agg #[.int .i64 (wayX (R)), .int .i64 (wayK (R))], .bool (wayZ (R))]) (by simp [results, Tryz.results210, go_sem, RB2_0, RB2_1, RB2_z, RB2_l]) rfl ⟨rfl, ?_⟩ <;> repeat (with_reducible first | exact Below.refl _ _ | refine b_s ?_ _ | refine b_a ?_ _ | refine Below.drew ?_ | refine below_drewN ?_ _ | refine b_t ?_ h2 | refine b_t ?_ hB))
end Go.Proofs.YtlendfhehhacpaaGreat
