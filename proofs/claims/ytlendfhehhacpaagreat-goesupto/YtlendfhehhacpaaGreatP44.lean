/- Joined of the texts WaysH, WaysK, WaysJ. -/
import Derived.Test.YtlendfhehhacpaaGreatP36
import Derived.Test.YtlendfhehhacpaaGreatP03
set_option linter.unusedVariables false
set_option linter.unusedSimpArgs false
set_option maxRecDepth 100000
set_option maxHeartbeats 8000000
namespace Go.Proofs.YtlendfhehhacpaaGreat
open Go.RowKit
theorem sWordStep_any (s : ByteArray) (r : Nat) (g : Bool) (w : World) (hs : s.size ≤ 1000) (hr : r ≤ s.size) :
    Calls Tryz.prog 249 #[.string s, .int .i64 r, .bool g] w fun e w' => e = .returned (.int .i64 (Nib.wstep s g r)) ∧ Below w.heap.size w w' := by
  have hw := Nib.wfrom_le (g := g) hr
  have HI : Hid (∀ ww, Calls Tryz.prog 282 #[.string s, .int .i64 (Nib.wfrom s r g : Nat), .bool true] ww fun e w' => e = .returned (.int .i64 (Nib.wstep s g r)) ∧ Below ww.heap.size ww w') := by
    intro ww
    refine sNextInk_any s (Nib.wfrom s r g) true (Nib.wgap s r) ww hs hw ?_ ?_ ?_
    · intro i h; exact Nib.wgap1 s r i h
    · intro i _ _ h h2
      refine Nib.wgap2 s r i g h ?_
      rcases h2 with h2 | h2 | h2
      · exact absurd h2 (by simp)
      · exact Or.inl h2
      · exact Or.inr h2
    · intro _ i h h2; exact Nib.wgap3 s r i g h h2
  have HK : Hid (∀ ww, Calls Tryz.prog 247 #[.string s, .int .i64 r] ww fun e w' => e = .returned (.bool (decide (r < s.size) && !Nib.spc (Nib.bt s r))) ∧ w' = ww) := fun ww => sHasInk_any s r r ww hs rfl hr
  generalize Nib.wstep s g r = X at *
  by_cases hk : r < s.size ∧ Nib.spc (Nib.bt s r) = false
  · have e1 : (decide (r < s.size) && !Nib.spc (Nib.bt s r)) = true := by rw [hk.2, decide_eq_true hk.1]; rfl
    have e2 : Nib.wfrom s r g = Nib.wrun s r g := by unfold Nib.wfrom; rw [if_pos hk]
    rw [e1] at HK
    rw [e2] at HI
    have hnl : Nib.bt s r ≠ 10 := by have := Nib.spc_nl_f hk.2; unfold Nib.nl at this; simpa using this
    have HR : Hid (∀ ww, Calls Tryz.prog 256 #[.string s, .int .i64 r, .bool g] ww fun e w' => e = .returned (.agg #[.int .i64 (Nib.runB s r g), .int .i64 (Nib.wrun s r g)]) ∧ Below ww.heap.size ww w') := fun ww => tRun_any s r r g ww hs rfl hk.1 hnl
    clear e1 e2 hk hnl hw
    have hx := ix1 (Nib.runB s r g) (Nib.wrun s r g)
    generalize Nib.runB s r g = A at *
    generalize Nib.wrun s r g = B at *
    go_enter Tryz.func249, Tryz.ntmps249
    go_wp2_with fail
    refine (HK.out _).mono ?_
    rintro e w' ⟨rfl, rfl⟩
    go_wp2_with fail
    refine (HR.out _).mono ?_
    rintro e w1 ⟨rfl, h1⟩
    obtain ⟨hc1, hf1⟩ := bcell h1
    have hz1 := h1.size
    try simp at hz1
    go_wp2_with fail
    refine (HI.out _).mono ?_
    rintro e w2 ⟨rfl, h2⟩
    obtain ⟨hc2, hf2⟩ := bcell h2
    have hz2 := h2.size
    try simp at hz2
    go_wp2
    all_goals
      first
        | (refine bodyPost_ret (v := .int .i64 X) (by simp [results, Tryz.results249, go_sem]) rfl ⟨rfl, ?_⟩ <;> repeat (with_reducible first | exact Below.refl _ _ | refine b_s ?_ _ | refine b_a ?_ _ | refine Below.drew ?_ | refine below_drewN ?_ _ | refine b_t ?_ h2 | refine b_t ?_ h1))
  · have e1 : (decide (r < s.size) && !Nib.spc (Nib.bt s r)) = false := by
      cases hs : Nib.spc (Nib.bt s r) with
      | true => simp
      | false => rw [hs] at hk; simp only [and_true] at hk; simp [hk]
    have e2 : Nib.wfrom s r g = r := by unfold Nib.wfrom; rw [if_neg hk]
    rw [e1] at HK
    rw [e2] at HI
    clear e1 e2 hk hw
    go_enter Tryz.func249, Tryz.ntmps249
    go_wp2_with fail
    refine (HK.out _).mono ?_
    rintro e w' ⟨rfl, rfl⟩
    go_wp2_with fail
    refine (HI.out _).mono ?_
    rintro e w2 ⟨rfl, h2⟩
    obtain ⟨hc2, hf2⟩ := bcell h2
    have hz2 := h2.size
    try simp at hz2
    go_wp2
    all_goals
      first
        | (refine bodyPost_ret (v := .int .i64 X) (by simp [results, Tryz.results249, go_sem]) rfl ⟨rfl, ?_⟩ <;> repeat (with_reducible first | exact Below.refl _ _ | refine b_s ?_ _ | refine b_a ?_ _ | refine Below.drew ?_ | refine below_drewN ?_ _ | refine b_t ?_ h2))
theorem sWordEnd_any (s : ByteArray) (r : Nat) (g : Bool) (w : World) (hs : s.size ≤ 1000) (hr : r ≤ s.size) :
    Calls Tryz.prog 252 #[.string s, .int .i64 r, .bool g] w fun e w' => e = .returned (.int .i64 (Nib.wes s g r)) ∧ Below w.heap.size w w' := by
  by_cases he : r = s.size
  · subst he
    rw [Nib.wes_end]
    go_enter Tryz.func252, Tryz.ntmps252
    go_wp2_with fail
    refine (tEnd_any s _).mono ?_
    rintro e w' ⟨rfl, rfl⟩
    go_wp2
    all_goals
      first
        | (refine bodyPost_ret (v := .int .i64 s.size) (by simp [results, Tryz.results252, go_sem]) rfl ⟨rfl, ?_⟩ <;> repeat (with_reducible first | exact Below.refl _ _ | refine b_s ?_ _ | refine b_a ?_ _ | refine Below.drew ?_ | refine below_drewN ?_ _))
  · have hlt : r < s.size := by omega
    have HI : Hid (∀ ww, Calls Tryz.prog 282 #[.string s, .int .i64 ((r : Int) + 1), .bool false] ww fun e w' => e = .returned (.int .i64 (Nib.up (Nib.sp s) s.size (r + 1) : Nat)) ∧ Below ww.heap.size ww w') := by
      intro ww
      refine sNextInk_any s (r + 1) false (Nib.sp s) ww hs (by omega) ?_ ?_ ?_
      · intro i h; exact h
      · intro i _ _ h _; exact h
      · intro h; exact absurd h (by simp)
    have hle : Nib.up (Nib.sp s) s.size (r + 1) ≤ s.size := Nib.up_le (by omega)
    rw [Nib.wes_eq hlt]
    have hne : ((r : Int) == (s.size : Int)) = false := by simp; omega
    clear he
    by_cases hq : Nib.up (Nib.sp s) s.size (r + 1) = s.size
    · rw [if_pos hq]
      rw [hq] at HI
      clear hq hle
      go_enter Tryz.func252, Tryz.ntmps252
      go_wp2_with fail
      refine (tEnd_any s _).mono ?_
      rintro e w' ⟨rfl, rfl⟩
      go_wp2_with fail
      refine (HI.out _).mono ?_
      rintro e w1 ⟨rfl, h1⟩
      obtain ⟨hc1, hf1⟩ := bcell h1
      have hz1 := h1.size
      try simp at hz1
      go_wp2_with fail
      refine (tEnd_any s _).mono ?_
      rintro e w' ⟨rfl, rfl⟩
      go_wp2
      all_goals
        first
          | (refine bodyPost_ret (v := .int .i64 r) (by simp [results, Tryz.results252, go_sem]) rfl ⟨rfl, ?_⟩ <;> repeat (with_reducible first | exact Below.refl _ _ | refine b_s ?_ _ | refine b_a ?_ _ | refine Below.drew ?_ | refine below_drewN ?_ _ | refine b_t ?_ h1))
    · rw [if_neg hq]
      have hql : Nib.up (Nib.sp s) s.size (r + 1) < s.size := by omega
      have hsp : Nib.sp s (Nib.up (Nib.sp s) s.size (r + 1)) = false := Nib.up_end hql
      generalize Nib.up (Nib.sp s) s.size (r + 1) = q at *
      have hnl : Nib.bt s q ≠ 10 := by have := Nib.spc_nl_f (s := s) (i := q) hsp; unfold Nib.nl at this; simpa using this
      have HR : Hid (∀ ww, Calls Tryz.prog 256 #[.string s, .int .i64 q, .bool g] ww fun e w' => e = .returned (.agg #[.int .i64 (Nib.runB s q g), .int .i64 (Nib.wrun s q g)]) ∧ Below ww.heap.size ww w') := fun ww => tRun_any s q q g ww hs rfl hql hnl
      have hgt := Nib.wrun_gt (g := g) hql
      have hwl := Nib.wrun_le (g := g) (show q ≤ s.size by omega)
      have hx := ix1 (Nib.runB s q g) (Nib.wrun s q g)
      clear hsp hnl
      generalize Nib.runB s q g = A at *
      generalize Nib.wrun s q g = B at *
      have hne2 : ((q : Int) == (s.size : Int)) = false := by simp; omega
      go_enter Tryz.func252, Tryz.ntmps252
      go_wp2_with fail
      refine (tEnd_any s _).mono ?_
      rintro e w' ⟨rfl, rfl⟩
      go_wp2_with fail
      refine (HI.out _).mono ?_
      rintro e w1 ⟨rfl, h1⟩
      obtain ⟨hc1, hf1⟩ := bcell h1
      have hz1 := h1.size
      try simp at hz1
      go_wp2_with fail
      refine (tEnd_any s _).mono ?_
      rintro e w' ⟨rfl, rfl⟩
      go_wp2_with fail
      refine (HR.out _).mono ?_
      rintro e w2 ⟨rfl, h2⟩
      obtain ⟨hc2, hf2⟩ := bcell h2
      have hz2 := h2.size
      try simp at hz2
      go_wp2
      all_goals
        first
          | (refine bodyPost_ret (v := .int .i64 ((B : Int) - 1)) (by simp [results, Tryz.results252, go_sem]) rfl ⟨ret_int (by omega), ?_⟩ <;> repeat (with_reducible first | exact Below.refl _ _ | refine b_s ?_ _ | refine b_a ?_ _ | refine Below.drew ?_ | refine below_drewN ?_ _ | refine b_t ?_ h2 | refine b_t ?_ h1))
theorem sToWordEnd_any (s : ByteArray) (p n : Nat) (v c g : Bool) (w : World) (hs : s.size ≤ 1000) (hp : p ≤ s.size) (hn : n ≤ 99) :
    Calls Tryz.prog 210 #[.agg #[.string s, .int .i64 (p), .int .i64 (n), .bool v, .bool c], .bool g] w fun e w' => e = .returned (.tuple #[.agg #[.int .i64 (wayX (Nib.endWay s g (max n 1) (p : Int))), .int .i64 (wayK (Nib.endWay s g (max n 1) (p : Int)))], .bool (wayZ (Nib.endWay s g (max n 1) (p : Int)))]) ∧ Below w.heap.size w w' := by
  have HP : Hid (∀ (q : Nat), q ≤ s.size → ∀ ww, Calls Tryz.prog 252 #[.string s, .int .i64 q, .bool g] ww fun e w' => e = .returned (.int .i64 (Nib.wes s g q)) ∧ Below ww.heap.size ww w') := fun q hq ww => sWordEnd_any s q g ww hs hq
  have HN : Hid (∀ ww, Calls Tryz.prog 241 #[.agg #[.string s, .int .i64 (p), .int .i64 (n), .bool v, .bool c]] ww fun e w' => e = .returned (.int .i64 ((max n 1 : Nat) : Int)) ∧ Below ww.heap.size ww w') := by
    intro ww
    have := sNumber_any s p n v c ww
    rw [show max (n : Int) 1 = ((max n 1 : Nat) : Int) by omega] at this
    exact this
  have hN1 : 1 ≤ max n 1 := by omega
  have hN2 : max n 1 ≤ 99 := by omega
  generalize max n 1 = N at *
  have HU : Hid (∀ ww, Calls Tryz.prog 240 #[.agg #[.string s, .int .i64 (p), .int .i64 (n), .bool v, .bool c], .int .i64 (Nib.itr (Nib.wes s g) N p : Nat), .int .i64 1] ww fun e w' => e = .returned (.tuple #[.agg #[.int .i64 (wayX (Nib.endWay s g N (p : Int))), .int .i64 (wayK (Nib.endWay s g N (p : Int)))], .bool (wayZ (Nib.endWay s g N (p : Int)))]) ∧ Below ww.heap.size ww w') := by
    intro ww
    refine sUnless_way s p n _ 1 v c ww ?_
    have := Nib.endWay_itr s g p N hN1
    exact ⟨this.1.symm, fun h => ⟨(this.2 (this.1.trans h)).1.symm, (this.2 (this.1.trans h)).2.symm⟩⟩
  generalize Nib.endWay s g N (p : Int) = R at *
  go_enter Tryz.func210, Tryz.ntmps210
  have F : Five ((w.alloc (.cells #[.string s, .int .i64 (p), .int .i64 (n), .bool v, .bool c] 206)).alloc (.cells #[.int .i64 0, .int .i64 0] 202)) w.heap.size s p n v c := Five.alloc (Five.new _ _ _ _ _ _ _) _
  have RB : Two ((w.alloc (.cells #[.string s, .int .i64 (p), .int .i64 (n), .bool v, .bool c] 206)).alloc (.cells #[.int .i64 0, .int .i64 0] 202)) (w.heap.size + 1) 0 0 := by have := Two.new (w.alloc (.cells #[.string s, .int .i64 (p), .int .i64 (n), .bool v, .bool c] 206)) 0 0 202; simpa using this
  go_wp2_with fail
  refine (HN.out _).mono ?_
  rintro r1 w1 ⟨rfl, h1⟩
  obtain ⟨hc1, hf1⟩ := bcell h1
  have hz1 := h1.size
  (try simp at hz1)
  have F1 : Five w1 (w.heap.size) s p n v c := (by repeat (with_reducible first | exact F | refine f_o ?_ _ | refine Five.alloc ?_ _ | refine Five.drewN ?_ _ | refine Five.drew ?_ | refine Five.below ?_ h1))
  have F1_0 := F1.c0
  have F1_1 := F1.c1
  have F1_2 := F1.c2
  have F1_3 := F1.c3
  have F1_4 := F1.c4
  have F1_z := F1.fz
  have F1_l := F1.lt
  have RB1 : Two w1 (w.heap.size + 1) (0) (0) := (by repeat (with_reducible first | exact RB | refine t_o ?_ _ | refine Two.alloc ?_ _ | refine Two.drewN ?_ _ | refine Two.drew ?_ | refine Two.below ?_ h1))
  have RB1_0 := RB1.c0
  have RB1_1 := RB1.c1
  have RB1_z := RB1.fz
  have RB1_l := RB1.lt
  go_wp2
  go_loopw [6, 11] (fun q i wr => ∃ k : Nat, k ≤ N ∧ q = .int .i64 (Nib.itr (Nib.wes s g) k p : Nat) ∧ i = .int .i64 k ∧ Five wr w.heap.size s p n v c ∧ Two wr (w.heap.size + 1) 0 0 ∧ Below w.heap.size w wr) (fun _ i _ => N - (intOf i).toNat)
  case atStart =>
    refine ⟨0, by omega, rfl, rfl, F1, RB1, ?_⟩
    repeat (with_reducible first | exact Below.refl _ _ | refine b_s ?_ _ | refine b_a ?_ _ | refine Below.drew ?_ | refine below_drewN ?_ _ | refine b_t ?_ h1)
  case round =>
    clear F RB h1 hc1 hf1 F1_0 F1_1 F1_2 F1_3 F1_4 F1_z F1_l RB1_0 RB1_1 RB1_z RB1_l
    obtain ⟨k, hk, rfl, rfl, F, RB, hB⟩ := hrel
    have hq := Nib.itr_wes_le (g := g) hp k
    have f0 := F.c0; have f1 := F.c1; have f2 := F.c2; have f3 := F.c3; have f4 := F.c4; have fz := F.fz; have fl := F.lt
    have r0 := (RB).c0
    have r1 := (RB).c1
    have rz := (RB).fz
    have rl := (RB).lt
    have hzz := hB.size
    by_cases hlt : k < N
    · have HS : Hid (∀ ww, Calls Tryz.prog 252 #[.string s, .int .i64 (Nib.itr (Nib.wes s g) k p : Nat), .bool g] ww fun e w' => e = .returned (.int .i64 (Nib.itr (Nib.wes s g) (k + 1) p : Nat)) ∧ Below ww.heap.size ww w') := fun ww => HP.out _ hq ww
      generalize hA : Nib.itr (Nib.wes s g) (k + 1) p = A at *
      go_wp2_with fail
      refine (HS.out _).mono ?_
      rintro r2 w2 ⟨rfl, h2⟩
      obtain ⟨hc2, hf2⟩ := bcell h2
      have hz2 := h2.size
      (try simp at hz2)
      have F2 : Five w2 (w.heap.size) s p n v c := (by repeat (with_reducible first | exact F | refine f_o ?_ _ | refine Five.alloc ?_ _ | refine Five.drewN ?_ _ | refine Five.drew ?_ | refine Five.below ?_ h2))
      have F2_0 := F2.c0
      have F2_1 := F2.c1
      have F2_2 := F2.c2
      have F2_3 := F2.c3
      have F2_4 := F2.c4
      have F2_z := F2.fz
      have F2_l := F2.lt
      have RB2 : Two w2 (w.heap.size + 1) (0) (0) := (by repeat (with_reducible first | exact RB | refine t_o ?_ _ | refine Two.alloc ?_ _ | refine Two.drewN ?_ _ | refine Two.drew ?_ | refine Two.below ?_ h2))
      have RB2_0 := RB2.c0
      have RB2_1 := RB2.c1
      have RB2_z := RB2.fz
      have RB2_l := RB2.lt
      go_wp2
      go_round
      case rel =>
        refine ⟨k + 1, by omega, by rw [hA], by go_num, F2, RB2, ?_⟩
        repeat (with_reducible first | exact Below.refl _ _ | refine b_s ?_ _ | refine b_a ?_ _ | refine Below.drew ?_ | refine below_drewN ?_ _ | refine b_t ?_ h2 | refine b_t ?_ hB)
      case measure => simp [intOf] <;> omega
    · have ek : k = N := by omega
      subst ek
      generalize Nib.itr (Nib.wes s g) k p = A at *
      go_wp2_with fail
      refine (HU.out _).mono ?_
      rintro r2 w2 ⟨rfl, h2⟩
      obtain ⟨hc2, hf2⟩ := bcell h2
      have hz2 := h2.size
      (try simp at hz2)
      have RB2 : Two w2 (w.heap.size + 1) (0) (0) := (by repeat (with_reducible first | exact RB | refine t_o ?_ _ | refine Two.alloc ?_ _ | refine Two.drewN ?_ _ | refine Two.drew ?_ | refine Two.below ?_ h2))
      have RB2_0 := RB2.c0
      have RB2_1 := RB2.c1
      have RB2_z := RB2.fz
      have RB2_l := RB2.lt
      go_wp2
      all_goals
        first
          | (refine bodyPost_ret (v := .tuple #[.agg #[.int .i64 (wayX (R)), .int .i64 (wayK (R))], .bool (wayZ (R))]) (by simp [results, Tryz.results210, go_sem, RB2_0, RB2_1, RB2_z, RB2_l]) rfl ⟨rfl, ?_⟩ <;> repeat (with_reducible first | exact Below.refl _ _ | refine b_s ?_ _ | refine b_a ?_ _ | refine Below.drew ?_ | refine below_drewN ?_ _ | refine b_t ?_ h2 | refine b_t ?_ hB))
theorem sToWord_plain (s : ByteArray) (p n : Nat) (g : Bool) (w : World) (hs : s.size ≤ 1000) (hp : p ≤ s.size) (hn : n ≤ 99) :
    Calls Tryz.prog 208 #[.agg #[.string s, .int .i64 (p), .int .i64 (n), .bool false, .bool false], .bool g] w fun e w' => e = .returned (.tuple #[.agg #[.int .i64 (wayX (((Nib.wordQ s p (max n 1) g false : Int), 0, (Nib.wordQ s p (max n 1) g false : Int) == (p : Int)))), .int .i64 (wayK (((Nib.wordQ s p (max n 1) g false : Int), 0, (Nib.wordQ s p (max n 1) g false : Int) == (p : Int))))], .bool (wayZ (((Nib.wordQ s p (max n 1) g false : Int), 0, (Nib.wordQ s p (max n 1) g false : Int) == (p : Int))))]) ∧ Below w.heap.size w w' := by
  have HP : Hid (∀ (q : Nat), q ≤ s.size → ∀ ww, Calls Tryz.prog 249 #[.string s, .int .i64 q, .bool g] ww fun e w' => e = .returned (.int .i64 (Nib.wstep s g q)) ∧ Below ww.heap.size ww w') := fun q hq ww => sWordStep_any s q g ww hs hq
  have HN : Hid (∀ ww, Calls Tryz.prog 241 #[.agg #[.string s, .int .i64 (p), .int .i64 (n), .bool false, .bool false]] ww fun e w' => e = .returned (.int .i64 ((max n 1 : Nat) : Int)) ∧ Below ww.heap.size ww w') := by
    intro ww
    have := sNumber_any s p n false false ww
    rw [show max (n : Int) 1 = ((max n 1 : Nat) : Int) by omega] at this
    exact this
  have hN1 : 1 ≤ max n 1 := by omega
  have hN2 : max n 1 ≤ 99 := by omega
  generalize max n 1 = N at *
  have HU : Hid (∀ ww, Calls Tryz.prog 240 #[.agg #[.string s, .int .i64 (p), .int .i64 (n), .bool false, .bool false], .int .i64 (Nib.wordQ s p N g false : Nat), .int .i64 0] ww fun e w' => e = .returned (.tuple #[.agg #[.int .i64 (wayX (((Nib.wordQ s p N g false : Int), 0, (Nib.wordQ s p N g false : Int) == (p : Int)))), .int .i64 (wayK (((Nib.wordQ s p N g false : Int), 0, (Nib.wordQ s p N g false : Int) == (p : Int))))], .bool (wayZ (((Nib.wordQ s p N g false : Int), 0, (Nib.wordQ s p N g false : Int) == (p : Int))))]) ∧ Below ww.heap.size ww w') := fun ww => sUnless_any s p n _ 0 false false ww
  generalize (((Nib.wordQ s p N g false : Nat) : Int), (0 : Int), (((Nib.wordQ s p N g false : Nat) : Int) == (p : Int))) = R at *
  have hlast := Nib.beg_le s s.size
  have HLast : Hid (∀ ww, Calls Tryz.prog 195 #[.string s, .int .i64 s.size] ww fun e w' => e = .returned (.agg #[.int .i64 (Nib.beg s s.size), .int .i64 (Nib.fin s s.size)]) ∧ Below ww.heap.size ww w') := fun ww => tLine_any s s.size s.size ww hs rfl (Nat.le_refl _)
  have hfl := Nib.fin_le (Nat.le_refl s.size)
  have HT : Hid (∀ ww, Calls Tryz.prog 202 #[.agg #[.int .i64 (Nib.beg s s.size), .int .i64 (Nib.fin s s.size)]] ww fun e w' => e = .returned (.int .i64 (Nib.lst s s.size : Nat)) ∧ Below ww.heap.size ww w') := by
    intro ww; rw [Nib.lst_max]; exact tLast_any _ _ ww (by omega)
  have HEnd : Hid (∀ ww, Calls Tryz.prog 246 #[.string s] ww fun e w' => e = .returned (.int .i64 s.size) ∧ Below ww.heap.size ww w') := by
    intro ww
    refine (tEnd_any s ww).mono ?_
    rintro e w' ⟨rfl, rfl⟩
    exact ⟨rfl, Below.refl _ _⟩
  have HV : Hid (((Nib.wordQ s p N g false : Nat) : Int) = if ((Nib.lst s s.size : Nat) : Int) < ((Nib.itr (Nib.wstep s g) N p : Nat) : Int) then ((Nib.lst s s.size : Nat) : Int) else ((Nib.itr (Nib.wstep s g) N p : Nat) : Int)) := by
    rw [Hid]
    unfold Nib.wordQ
    rw [if_neg (by simp)]
    obtain ⟨k, rfl⟩ : ∃ k, N = k + 1 := ⟨N - 1, by omega⟩
    exact Nib.clm_word (Nib.itr_w_le hp k)
  generalize Nib.lst s s.size = LL at *
  generalize Nib.beg s s.size = LB at *
  generalize Nib.fin s s.size = LF at *
  go_enter Tryz.func208, Tryz.ntmps208
  have F : Five ((w.alloc (.cells #[.string s, .int .i64 (p), .int .i64 (n), .bool false, .bool false] 206)).alloc (.cells #[.int .i64 0, .int .i64 0] 202)) w.heap.size s p n false false := Five.alloc (Five.new _ _ _ _ _ _ _) _
  have RB : Two ((w.alloc (.cells #[.string s, .int .i64 (p), .int .i64 (n), .bool false, .bool false] 206)).alloc (.cells #[.int .i64 0, .int .i64 0] 202)) (w.heap.size + 1) 0 0 := by have := Two.new (w.alloc (.cells #[.string s, .int .i64 (p), .int .i64 (n), .bool false, .bool false] 206)) 0 0 202; simpa using this
  go_wp2_with fail
  go_region
  go_wp2_with fail
  refine (HN.out _).mono ?_
  rintro r1 w1 ⟨rfl, h1⟩
  obtain ⟨hc1, hf1⟩ := bcell h1
  have hz1 := h1.size
  (try simp at hz1)
  have F1 : Five w1 (w.heap.size) s p n false false := (by repeat (with_reducible first | exact F | refine f_o ?_ _ | refine Five.alloc ?_ _ | refine Five.drewN ?_ _ | refine Five.drew ?_ | refine Five.below ?_ h1))
  have F1_0 := F1.c0
  have F1_1 := F1.c1
  have F1_2 := F1.c2
  have F1_3 := F1.c3
  have F1_4 := F1.c4
  have F1_z := F1.fz
  have F1_l := F1.lt
  have RB1 : Two w1 (w.heap.size + 1) (0) (0) := (by repeat (with_reducible first | exact RB | refine t_o ?_ _ | refine Two.alloc ?_ _ | refine Two.drewN ?_ _ | refine Two.drew ?_ | refine Two.below ?_ h1))
  have RB1_0 := RB1.c0
  have RB1_1 := RB1.c1
  have RB1_z := RB1.fz
  have RB1_l := RB1.lt
  go_wp2
  go_loopw [7, 27] (fun q i wr => ∃ k : Nat, k ≤ N ∧ q = .int .i64 (Nib.itr (Nib.wstep s g) k p : Nat) ∧ i = .int .i64 k ∧ Five wr w.heap.size s p n false false ∧ Two wr (w.heap.size + 1) 0 0 ∧ Below w.heap.size w wr) (fun _ i _ => N - (intOf i).toNat)
  case atStart =>
    refine ⟨0, by omega, rfl, rfl, F1, RB1, ?_⟩
    repeat (with_reducible first | exact Below.refl _ _ | refine b_s ?_ _ | refine b_a ?_ _ | refine Below.drew ?_ | refine below_drewN ?_ _ | refine b_t ?_ h1)
  case round =>
    clear F RB h1 hc1 hf1 F1_0 F1_1 F1_2 F1_3 F1_4 F1_z F1_l RB1_0 RB1_1 RB1_z RB1_l
    obtain ⟨k, hk, rfl, rfl, F, RB, hB⟩ := hrel
    have hq := Nib.itr_w_le (g := g) hp k
    have f0 := F.c0; have f1 := F.c1; have f2 := F.c2; have f3 := F.c3; have f4 := F.c4; have fz := F.fz; have fl := F.lt
    have r0 := (RB).c0
    have r1 := (RB).c1
    have rz := (RB).fz
    have rl := (RB).lt
    have hzz := hB.size
    by_cases hlt : k < N
    · have HS : Hid (∀ ww, Calls Tryz.prog 249 #[.string s, .int .i64 (Nib.itr (Nib.wstep s g) k p : Nat), .bool g] ww fun e w' => e = .returned (.int .i64 (Nib.itr (Nib.wstep s g) (k + 1) p : Nat)) ∧ Below ww.heap.size ww w') := fun ww => HP.out _ hq ww
      generalize hA : Nib.itr (Nib.wstep s g) (k + 1) p = A at *
      go_wp2_with fail
      refine (HS.out _).mono ?_
      rintro r2 w2 ⟨rfl, h2⟩
      obtain ⟨hc2, hf2⟩ := bcell h2
      have hz2 := h2.size
      (try simp at hz2)
      have F2 : Five w2 (w.heap.size) s p n false false := (by repeat (with_reducible first | exact F | refine f_o ?_ _ | refine Five.alloc ?_ _ | refine Five.drewN ?_ _ | refine Five.drew ?_ | refine Five.below ?_ h2))
      have F2_0 := F2.c0
      have F2_1 := F2.c1
      have F2_2 := F2.c2
      have F2_3 := F2.c3
      have F2_4 := F2.c4
      have F2_z := F2.fz
      have F2_l := F2.lt
      have RB2 : Two w2 (w.heap.size + 1) (0) (0) := (by repeat (with_reducible first | exact RB | refine t_o ?_ _ | refine Two.alloc ?_ _ | refine Two.drewN ?_ _ | refine Two.drew ?_ | refine Two.below ?_ h2))
      have RB2_0 := RB2.c0
      have RB2_1 := RB2.c1
      have RB2_z := RB2.fz
      have RB2_l := RB2.lt
      go_wp2
      go_round
      case rel =>
        refine ⟨k + 1, by omega, by rw [hA], by go_num, F2, RB2, ?_⟩
        repeat (with_reducible first | exact Below.refl _ _ | refine b_s ?_ _ | refine b_a ?_ _ | refine Below.drew ?_ | refine below_drewN ?_ _ | refine b_t ?_ h2 | refine b_t ?_ hB)
      case measure => simp [intOf] <;> omega
    · have ek : k = N := by omega
      subst ek
      rw [HV.out] at HU
      clear HV
      generalize Nib.itr (Nib.wstep s g) k p = A at *
      have hcast : (if (LL : Int) < (A : Int) then (LL : Int) else (A : Int)) = (if LL < A then (LL : Int) else (A : Int)) := by split <;> split <;> omega
      rw [hcast] at HU
      clear hcast
      generalize hX : (if LL < A then (LL : Int) else (A : Int)) = X at HU
      have s0 := f0; have s1 := f1; have s2 := f2; have s3 := f3; have s4 := f4
      go_wp2_with fail
      go_region_held3 (fun ww => ww.cell? ⟨w.heap.size, 0, none⟩ = some (.string s) ∧ ww.cell? ⟨w.heap.size, 1, none⟩ = some (.int .i64 p) ∧ ww.cell? ⟨w.heap.size, 2, none⟩ = some (.int .i64 n) ∧ ww.cell? ⟨w.heap.size, 3, none⟩ = some (.bool false) ∧ ww.cell? ⟨w.heap.size, 4, none⟩ = some (.bool false)) ((refine ⟨?_, ?_, ?_, ?_, ?_⟩ <;> (first | ((repeat (first | with_reducible assumption | (with_reducible refine memLater ((Below.refl _ _).alloc (Nat.le_refl _) _) ?_) | (with_reducible refine memLater ((Below.refl _ _).drew) ?_) | (with_reducible refine memLater h2 ?_) | (with_reducible refine memLater h3 ?_) | (with_reducible refine (memSet (by omega)).trans ?_))); done) | (go_simp; done)))) (first | (go_at_call 246; refine (HEnd.out _).mono ?_; rintro r2 w2 ⟨rfl, h2⟩; obtain ⟨hc2, hf2⟩ := bcell h2; have hz2 := h2.size; (try simp at hz2); (try have hl2_0 : w.heap.size < w2.heap.size := (by omega)); (try have hk2_0 : w.heap.size < w2.heap.size + 1 := (by omega)); (try have hl2_1 : wr.heap.size < w2.heap.size := (by omega)); (try have hk2_1 : wr.heap.size < w2.heap.size + 1 := (by omega)); (try have hl2_2 : w2.heap.size < w2.heap.size := (by omega)); (try have hk2_2 : w2.heap.size < w2.heap.size + 1 := (by omega)); have RB2 : Two w2 (w.heap.size + 1) (0) (0) := (by repeat (with_reducible first | exact RB | refine t_o ?_ _ | refine Two.alloc ?_ _ | refine Two.drewN ?_ _ | refine Two.drew ?_ | refine Two.below ?_ h2)); have RB2_0 := RB2.c0; have RB2_1 := RB2.c1; have RB2_z := RB2.fz; have RB2_l := RB2.lt) | (go_at_call 195; refine (HLast.out _).mono ?_; rintro r3 w3 ⟨rfl, h3⟩; obtain ⟨hc3, hf3⟩ := bcell h3; have hz3 := h3.size; (try simp at hz3); (try have hl3_0 : w.heap.size < w3.heap.size := (by omega)); (try have hk3_0 : w.heap.size < w3.heap.size + 1 := (by omega)); (try have hl3_1 : wr.heap.size < w3.heap.size := (by omega)); (try have hk3_1 : wr.heap.size < w3.heap.size + 1 := (by omega)); (try have hl3_2 : w2.heap.size < w3.heap.size := (by omega)); (try have hk3_2 : w2.heap.size < w3.heap.size + 1 := (by omega)); have RB3 : Two w3 (w.heap.size + 1) (0) (0) := (by repeat (with_reducible first | exact RB | refine t_o ?_ _ | refine Two.alloc ?_ _ | refine Two.drewN ?_ _ | refine Two.drew ?_ | refine Two.below ?_ h2 | refine Two.below ?_ h3)); have RB3_0 := RB3.c0; have RB3_1 := RB3.c1; have RB3_z := RB3.fz; have RB3_l := RB3.lt))
      · have T : Two (w3.alloc (.cells #[.int .i64 LB, .int .i64 LF] 128)) (w3.heap.size) LB LF := Two.new _ _ _ _
        have t0 := T.c0
        have t1 := T.c1
        clear hc2 hf2 hc3 hf3 HP HN HEnd HLast F f0 f1 f2 f3 f4
        go_wp2_with fail
        go_region_held3 (fun ww => ww.cell? ⟨w.heap.size, 0, none⟩ = some (.string s) ∧ ww.cell? ⟨w.heap.size, 1, none⟩ = some (.int .i64 p) ∧ ww.cell? ⟨w.heap.size, 2, none⟩ = some (.int .i64 n) ∧ ww.cell? ⟨w.heap.size, 3, none⟩ = some (.bool false) ∧ ww.cell? ⟨w.heap.size, 4, none⟩ = some (.bool false) ∧ ww.cell? ⟨w3.heap.size, 0, none⟩ = some (.int .i64 LB) ∧ ww.cell? ⟨w3.heap.size, 1, none⟩ = some (.int .i64 LF)) ((refine ⟨?_, ?_, ?_, ?_, ?_, ?_, ?_⟩ <;> (first | ((repeat (first | with_reducible assumption | (with_reducible refine memLater ((Below.refl _ _).alloc (Nat.le_refl _) _) ?_) | (with_reducible refine memLater ((Below.refl _ _).drew) ?_) | (with_reducible refine memLater h4 ?_) | (with_reducible refine memLater h5 ?_) | (with_reducible refine memLater h3 ?_) | (with_reducible refine memLater h2 ?_) | (with_reducible refine (memSet (by omega)).trans ?_))); done) | (go_simp; done)))) (first | (go_at_call 202; refine (HT.out _).mono ?_; rintro r4 w4 ⟨rfl, h4⟩; obtain ⟨hc4, hf4⟩ := bcell h4; have hz4 := h4.size; (try simp at hz4); (try have hl4_0 : w.heap.size < w4.heap.size := (by omega)); (try have hk4_0 : w.heap.size < w4.heap.size + 1 := (by omega)); (try have hl4_1 : w3.heap.size < w4.heap.size := (by omega)); (try have hk4_1 : w3.heap.size < w4.heap.size + 1 := (by omega)); have RB4 : Two w4 (w.heap.size + 1) (0) (0) := (by repeat (with_reducible first | exact RB | refine t_o ?_ _ | refine Two.alloc ?_ _ | refine Two.drewN ?_ _ | refine Two.drew ?_ | refine Two.below ?_ h4 | refine Two.below ?_ h3 | refine Two.below ?_ h2)); have RB4_0 := RB4.c0; have RB4_1 := RB4.c1; have RB4_z := RB4.fz; have RB4_l := RB4.lt) | (go_at_call 240; refine (HU.out _).mono ?_; rintro r5 w5 ⟨rfl, h5⟩; obtain ⟨hc5, hf5⟩ := bcell h5; have hz5 := h5.size; (try simp at hz5); (try have hl5_0 : w.heap.size < w5.heap.size := (by omega)); (try have hk5_0 : w.heap.size < w5.heap.size + 1 := (by omega)); (try have hl5_1 : w3.heap.size < w5.heap.size := (by omega)); (try have hk5_1 : w3.heap.size < w5.heap.size + 1 := (by omega)); have RB5 : Two w5 (w.heap.size + 1) (0) (0) := (by repeat (with_reducible first | exact RB | refine t_o ?_ _ | refine Two.alloc ?_ _ | refine Two.drewN ?_ _ | refine Two.drew ?_ | refine Two.below ?_ h4 | refine Two.below ?_ h5 | refine Two.below ?_ h3 | refine Two.below ?_ h2)); have RB5_0 := RB5.c0; have RB5_1 := RB5.c1; have RB5_z := RB5.fz; have RB5_l := RB5.lt))
        clear hc4 hf4 hc5 hf5
        go_wp2
        all_goals
          first
            | (refine bodyPost_ret (v := .tuple #[.agg #[.int .i64 (wayX (R)), .int .i64 (wayK (R))], .bool (wayZ (R))]) (by simp [results, Tryz.results208, go_sem, RB5_0, RB5_1, RB5_z, RB5_l]) rfl ⟨rfl, ?_⟩ <;> repeat (with_reducible first | exact Below.refl _ _ | refine b_s ?_ _ | refine b_a ?_ _ | refine Below.drew ?_ | refine below_drewN ?_ _ | refine b_t ?_ h5 | refine b_t ?_ h4 | refine b_t ?_ h3 | refine b_t ?_ h2 | refine b_t ?_ hB))
      · have Tb : Two w3 (w2.heap.size) 0 0 := Two.below (Two.new _ 0 0 _) h3
        have e0 := (Tb).c0
        have e1 := (Tb).c1
        have ez := (Tb).fz
        have el := (Tb).lt
        have T : Two ((w3.setCell ⟨w2.heap.size, 0, none⟩ (.int .i64 LB)).setCell ⟨w2.heap.size, 1, none⟩ (.int .i64 LF)) (w2.heap.size) LB LF := Two.set1 (Two.set0 Tb _) _
        have t0 := T.c0
        have t1 := T.c1
        clear hc2 hf2 hc3 hf3 HP HN HEnd HLast F f0 f1 f2 f3 f4
        go_wp2_with fail
        go_region_held3 (fun ww => ww.cell? ⟨w.heap.size, 0, none⟩ = some (.string s) ∧ ww.cell? ⟨w.heap.size, 1, none⟩ = some (.int .i64 p) ∧ ww.cell? ⟨w.heap.size, 2, none⟩ = some (.int .i64 n) ∧ ww.cell? ⟨w.heap.size, 3, none⟩ = some (.bool false) ∧ ww.cell? ⟨w.heap.size, 4, none⟩ = some (.bool false) ∧ ww.cell? ⟨w2.heap.size, 0, none⟩ = some (.int .i64 LB) ∧ ww.cell? ⟨w2.heap.size, 1, none⟩ = some (.int .i64 LF)) ((refine ⟨?_, ?_, ?_, ?_, ?_, ?_, ?_⟩ <;> (first | ((repeat (first | with_reducible assumption | (with_reducible refine memLater ((Below.refl _ _).alloc (Nat.le_refl _) _) ?_) | (with_reducible refine memLater ((Below.refl _ _).drew) ?_) | (with_reducible refine memLater h4 ?_) | (with_reducible refine memLater h5 ?_) | (with_reducible refine memLater h3 ?_) | (with_reducible refine memLater h2 ?_) | (with_reducible refine (memSet (by omega)).trans ?_))); done) | (go_simp; done)))) (first | (go_at_call 202; refine (HT.out _).mono ?_; rintro r4 w4 ⟨rfl, h4⟩; obtain ⟨hc4, hf4⟩ := bcell h4; have hz4 := h4.size; (try simp at hz4); (try have hl4_0 : w.heap.size < w4.heap.size := (by omega)); (try have hk4_0 : w.heap.size < w4.heap.size + 1 := (by omega)); (try have hl4_1 : w2.heap.size < w4.heap.size := (by omega)); (try have hk4_1 : w2.heap.size < w4.heap.size + 1 := (by omega)); have RB4 : Two w4 (w.heap.size + 1) (0) (0) := (by repeat (with_reducible first | exact RB | refine t_o ?_ _ | refine Two.alloc ?_ _ | refine Two.drewN ?_ _ | refine Two.drew ?_ | refine Two.below ?_ h4 | refine Two.below ?_ h3 | refine Two.below ?_ h2)); have RB4_0 := RB4.c0; have RB4_1 := RB4.c1; have RB4_z := RB4.fz; have RB4_l := RB4.lt) | (go_at_call 240; refine (HU.out _).mono ?_; rintro r5 w5 ⟨rfl, h5⟩; obtain ⟨hc5, hf5⟩ := bcell h5; have hz5 := h5.size; (try simp at hz5); (try have hl5_0 : w.heap.size < w5.heap.size := (by omega)); (try have hk5_0 : w.heap.size < w5.heap.size + 1 := (by omega)); (try have hl5_1 : w2.heap.size < w5.heap.size := (by omega)); (try have hk5_1 : w2.heap.size < w5.heap.size + 1 := (by omega)); have RB5 : Two w5 (w.heap.size + 1) (0) (0) := (by repeat (with_reducible first | exact RB | refine t_o ?_ _ | refine Two.alloc ?_ _ | refine Two.drewN ?_ _ | refine Two.drew ?_ | refine Two.below ?_ h4 | refine Two.below ?_ h5 | refine Two.below ?_ h3 | refine Two.below ?_ h2)); have RB5_0 := RB5.c0; have RB5_1 := RB5.c1; have RB5_z := RB5.fz; have RB5_l := RB5.lt))
        clear hc4 hf4 hc5 hf5
        go_wp2
        all_goals
          first
            | (refine bodyPost_ret (v := .tuple #[.agg #[.int .i64 (wayX (R)), .int .i64 (wayK (R))], .bool (wayZ (R))]) (by simp [results, Tryz.results208, go_sem, RB5_0, RB5_1, RB5_z, RB5_l]) rfl ⟨rfl, ?_⟩ <;> repeat (with_reducible first | exact Below.refl _ _ | refine b_s ?_ _ | refine b_a ?_ _ | refine Below.drew ?_ | refine below_drewN ?_ _ | refine b_t ?_ h5 | refine b_t ?_ h4 | refine b_t ?_ h3 | refine b_t ?_ h2 | refine b_t ?_ hB))
      · have Tb : Two w3 (wr.heap.size) 0 0 := Two.below (Two.below (Two.drew (Two.new _ 0 0 _)) h2) h3
        have e0 := (Tb).c0
        have e1 := (Tb).c1
        have ez := (Tb).fz
        have el := (Tb).lt
        have T : Two ((w3.setCell ⟨wr.heap.size, 0, none⟩ (.int .i64 LB)).setCell ⟨wr.heap.size, 1, none⟩ (.int .i64 LF)) (wr.heap.size) LB LF := Two.set1 (Two.set0 Tb _) _
        have t0 := T.c0
        have t1 := T.c1
        clear hc2 hf2 hc3 hf3 HP HN HEnd HLast F f0 f1 f2 f3 f4
        go_wp2_with fail
        go_region_held3 (fun ww => ww.cell? ⟨w.heap.size, 0, none⟩ = some (.string s) ∧ ww.cell? ⟨w.heap.size, 1, none⟩ = some (.int .i64 p) ∧ ww.cell? ⟨w.heap.size, 2, none⟩ = some (.int .i64 n) ∧ ww.cell? ⟨w.heap.size, 3, none⟩ = some (.bool false) ∧ ww.cell? ⟨w.heap.size, 4, none⟩ = some (.bool false) ∧ ww.cell? ⟨wr.heap.size, 0, none⟩ = some (.int .i64 LB) ∧ ww.cell? ⟨wr.heap.size, 1, none⟩ = some (.int .i64 LF)) ((refine ⟨?_, ?_, ?_, ?_, ?_, ?_, ?_⟩ <;> (first | ((repeat (first | with_reducible assumption | (with_reducible refine memLater ((Below.refl _ _).alloc (Nat.le_refl _) _) ?_) | (with_reducible refine memLater ((Below.refl _ _).drew) ?_) | (with_reducible refine memLater h4 ?_) | (with_reducible refine memLater h5 ?_) | (with_reducible refine memLater h3 ?_) | (with_reducible refine memLater h2 ?_) | (with_reducible refine (memSet (by omega)).trans ?_))); done) | (go_simp; done)))) (first | (go_at_call 202; refine (HT.out _).mono ?_; rintro r4 w4 ⟨rfl, h4⟩; obtain ⟨hc4, hf4⟩ := bcell h4; have hz4 := h4.size; (try simp at hz4); (try have hl4_0 : w.heap.size < w4.heap.size := (by omega)); (try have hk4_0 : w.heap.size < w4.heap.size + 1 := (by omega)); (try have hl4_1 : wr.heap.size < w4.heap.size := (by omega)); (try have hk4_1 : wr.heap.size < w4.heap.size + 1 := (by omega)); have RB4 : Two w4 (w.heap.size + 1) (0) (0) := (by repeat (with_reducible first | exact RB | refine t_o ?_ _ | refine Two.alloc ?_ _ | refine Two.drewN ?_ _ | refine Two.drew ?_ | refine Two.below ?_ h4 | refine Two.below ?_ h3 | refine Two.below ?_ h2)); have RB4_0 := RB4.c0; have RB4_1 := RB4.c1; have RB4_z := RB4.fz; have RB4_l := RB4.lt) | (go_at_call 240; refine (HU.out _).mono ?_; rintro r5 w5 ⟨rfl, h5⟩; obtain ⟨hc5, hf5⟩ := bcell h5; have hz5 := h5.size; (try simp at hz5); (try have hl5_0 : w.heap.size < w5.heap.size := (by omega)); (try have hk5_0 : w.heap.size < w5.heap.size + 1 := (by omega)); (try have hl5_1 : wr.heap.size < w5.heap.size := (by omega)); (try have hk5_1 : wr.heap.size < w5.heap.size + 1 := (by omega)); have RB5 : Two w5 (w.heap.size + 1) (0) (0) := (by repeat (with_reducible first | exact RB | refine t_o ?_ _ | refine Two.alloc ?_ _ | refine Two.drewN ?_ _ | refine Two.drew ?_ | refine Two.below ?_ h4 | refine Two.below ?_ h5 | refine Two.below ?_ h3 | refine Two.below ?_ h2)); have RB5_0 := RB5.c0; have RB5_1 := RB5.c1; have RB5_z := RB5.fz; have RB5_l := RB5.lt))
        clear hc4 hf4 hc5 hf5
        go_wp2
        all_goals
          first
            | (refine bodyPost_ret (v := .tuple #[.agg #[.int .i64 (wayX (R)), .int .i64 (wayK (R))], .bool (wayZ (R))]) (by simp [results, Tryz.results208, go_sem, RB5_0, RB5_1, RB5_z, RB5_l]) rfl ⟨rfl, ?_⟩ <;> repeat (with_reducible first | exact Below.refl _ _ | refine b_s ?_ _ | refine b_a ?_ _ | refine Below.drew ?_ | refine below_drewN ?_ _ | refine b_t ?_ h5 | refine b_t ?_ h4 | refine b_t ?_ h3 | refine b_t ?_ h2 | refine b_t ?_ hB))
end Go.Proofs.YtlendfhehhacpaaGreat
