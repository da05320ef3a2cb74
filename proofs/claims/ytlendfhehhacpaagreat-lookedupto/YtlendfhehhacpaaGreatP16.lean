/- Joined of the texts WaysF. -/
import Derived.Test.YtlendfhehhacpaaGreatP15
import Derived.Test.YtlendfhehhacpaaGreatP04
set_option linter.unusedVariables false
set_option linter.unusedSimpArgs false
set_option maxRecDepth 100000
set_option maxHeartbeats 8000000
namespace Go.Proofs.YtlendfhehhacpaaGreat
open Go.RowKit
theorem sToPar_any (s : ByteArray) (p n : Nat) (v c down : Bool) (d : Int) (w : World) (hs : s.size ≤ 1000) (hp : p ≤ s.size) (hn : n ≤ 99) (hd : d = if down = true then 1 else -1) :
    Calls Tryz.prog 211 #[.agg #[.string s, .int .i64 (p), .int .i64 (n), .bool v, .bool c], .int .i64 d] w fun e w' => e = .returned (.tuple #[.agg #[.int .i64 (wayX (((Nib.parQ s p (max n 1) down v : Int), 0, (Nib.parQ s p (max n 1) down v : Int) == (p : Int)))), .int .i64 (wayK (((Nib.parQ s p (max n 1) down v : Int), 0, (Nib.parQ s p (max n 1) down v : Int) == (p : Int))))], .bool (wayZ (((Nib.parQ s p (max n 1) down v : Int), 0, (Nib.parQ s p (max n 1) down v : Int) == (p : Int))))]) ∧ Below w.heap.size w w' := by
  have HP : Hid (∀ (q : Nat), q ≤ s.size → ∀ ww, Calls Tryz.prog 253 #[.string s, .int .i64 q, .int .i64 d] ww fun e w' => e = .returned (.int .i64 (Nib.parStep s down q)) ∧ Below ww.heap.size ww w') := by
    intro q hq ww
    cases down with
    | true => rw [hd]; exact sParStep_down s q ww hs hq
    | false => rw [hd]; exact sParStep_up s q ww hs hq
  clear hd
  have HN : Hid (∀ ww, Calls Tryz.prog 241 #[.agg #[.string s, .int .i64 (p), .int .i64 (n), .bool v, .bool c]] ww fun e w' => e = .returned (.int .i64 ((max n 1 : Nat) : Int)) ∧ Below ww.heap.size ww w') := by
    intro ww
    have := sNumber_any s p n v c ww
    rw [show max (n : Int) 1 = ((max n 1 : Nat) : Int) by omega] at this
    exact this
  have hN2 : max n 1 ≤ 99 := by omega
  generalize max n 1 = N at *
  have HU : Hid (∀ ww, Calls Tryz.prog 240 #[.agg #[.string s, .int .i64 (p), .int .i64 (n), .bool v, .bool c], .int .i64 (Nib.parQ s p N down v : Nat), .int .i64 0] ww fun e w' => e = .returned (.tuple #[.agg #[.int .i64 (wayX (((Nib.parQ s p N down v : Int), 0, (Nib.parQ s p N down v : Int) == (p : Int)))), .int .i64 (wayK (((Nib.parQ s p N down v : Int), 0, (Nib.parQ s p N down v : Int) == (p : Int))))], .bool (wayZ (((Nib.parQ s p N down v : Int), 0, (Nib.parQ s p N down v : Int) == (p : Int))))]) ∧ Below ww.heap.size ww w') := fun ww => sUnless_any s p n _ 0 v c ww
  generalize (((Nib.parQ s p N down v : Nat) : Int), (0 : Int), (((Nib.parQ s p N down v : Nat) : Int) == (p : Int))) = R at *
  go_enter Tryz.func211, Tryz.ntmps211
  have F : Five ((w.alloc (.cells #[.string s, .int .i64 (p), .int .i64 (n), .bool v, .bool c] 206)).alloc (.cells #[.int .i64 0, .int .i64 0] 202)) w.heap.size s p n v c := Five.alloc (Five.new _ _ _ _ _ _ _) _
  have RB : Two ((w.alloc (.cells #[.string s, .int .i64 (p), .int .i64 (n), .bool v, .bool c] 206)).alloc (.cells #[.int .i64 0, .int .i64 0] 202)) (w.heap.size + 1) 0 0 := by have := Two.new (w.alloc (.cells #[.string s, .int .i64 (p), .int .i64 (n), .bool v, .bool c] 206)) 0 0 202; simpa using this
  go_wp2_with fail
  refine (HN.out _).mono ?_
  rintro r1 w1 ⟨rfl, h1⟩
  obtain ⟨hc1, hf1⟩ := bcell h1
  have hz1 := h1.size
  (try simp at hz1)
  have F1 : Five w1 (w.heap.size) s p n v c := (by repeat (with_reducible first | exact F | refine f_o ?_ _ | refine Five.alloc ?_ _ | refine Five.drewN ?_ _ | refine Five.drew ?_ | refine Five.below ?_ h1))
  have F1_0 := F1.c0
  have F1_1 := F1.c1
  have F1_2 := F1.c2
  have F1_3 := F1.c3
  have F1_4 := F1.c4
  have F1_z := F1.fz
  have F1_l := F1.lt
  have RB1 : Two w1 (w.heap.size + 1) (0) (0) := (by repeat (with_reducible first | exact RB | refine t_o ?_ _ | refine Two.alloc ?_ _ | refine Two.drewN ?_ _ | refine Two.drew ?_ | refine Two.below ?_ h1))
  have RB1_0 := RB1.c0
  have RB1_1 := RB1.c1
  have RB1_z := RB1.fz
  have RB1_l := RB1.lt
  go_wp2
  go_loopw [6, 11] (fun q i wr => ∃ k : Nat, k ≤ N ∧ q = .int .i64 (Nib.itr (Nib.parStep s down) k p : Nat) ∧ i = .int .i64 k ∧ Five wr w.heap.size s p n v c ∧ Two wr (w.heap.size + 1) 0 0 ∧ Below w.heap.size w wr) (fun _ i _ => N - (intOf i).toNat)
  case atStart =>
    refine ⟨0, by omega, rfl, rfl, F1, RB1, ?_⟩
    repeat (with_reducible first | exact Below.refl _ _ | refine b_s ?_ _ | refine b_a ?_ _ | refine Below.drew ?_ | refine below_drewN ?_ _ | refine b_t ?_ h1)
  case round =>
    clear F RB h1 hc1 hf1 F1_0 F1_1 F1_2 F1_3 F1_4 F1_z F1_l RB1_0 RB1_1 RB1_z RB1_l
    obtain ⟨k, hk, rfl, rfl, F, RB, hB⟩ := hrel
    have hq := Nib.itr_p_le (down := down) hp k
    have f0 := F.c0; have f1 := F.c1; have f2 := F.c2; have f3 := F.c3; have f4 := F.c4; have fz := F.fz; have fl := F.lt
    have r0 := (RB).c0
    have r1 := (RB).c1
    have rz := (RB).fz
    have rl := (RB).lt
    have hzz := hB.size
    by_cases hlt : k < N
    · have HS : Hid (∀ ww, Calls Tryz.prog 253 #[.string s, .int .i64 (Nib.itr (Nib.parStep s down) k p : Nat), .int .i64 d] ww fun e w' => e = .returned (.int .i64 (Nib.itr (Nib.parStep s down) (k + 1) p : Nat)) ∧ Below ww.heap.size ww w') := fun ww => HP.out _ hq ww
      generalize hA : Nib.itr (Nib.parStep s down) (k + 1) p = A at *
      go_wp2_with fail
      refine (HS.out _).mono ?_
      rintro r2 w2 ⟨rfl, h2⟩
      obtain ⟨hc2, hf2⟩ := bcell h2
      have hz2 := h2.size
      (try simp at hz2)
      have F2 : Five w2 (w.heap.size) s p n v c := (by repeat (with_reducible first | exact F | refine f_o ?_ _ | refine Five.alloc ?_ _ | refine Five.drewN ?_ _ | refine Five.drew ?_ | refine Five.below ?_ h2))
      have F2_0 := F2.c0
      have F2_1 := F2.c1
      have F2_2 := F2.c2
      have F2_3 := F2.c3
      have F2_4 := F2.c4
      have F2_z := F2.fz
      have F2_l := F2.lt
      have RB2 : Two w2 (w.heap.size + 1) (0) (0) := (by repeat (with_reducible first | exact RB | refine t_o ?_ _ | refine Two.alloc ?_ _ | refine Two.drewN ?_ _ | refine Two.drew ?_ | refine Two.below ?_ h2))
      have RB2_0 := RB2.c0
      have RB2_1 := RB2.c1
      have RB2_z := RB2.fz
      have RB2_l := RB2.lt
      go_wp2
      go_round
      case rel =>
        refine ⟨k + 1, by omega, by rw [hA], by go_num, F2, RB2, ?_⟩
        repeat (with_reducible first | exact Below.refl _ _ | refine b_s ?_ _ | refine b_a ?_ _ | refine Below.drew ?_ | refine below_drewN ?_ _ | refine b_t ?_ h2 | refine b_t ?_ hB)
      case measure => simp [intOf] <;> omega
    · have ek : k = N := by omega
      subst ek
      cases v with
      | true =>
        have HV : Nib.parQ s p k down true = Nib.itr (Nib.parStep s down) k p := by unfold Nib.parQ; rw [if_pos rfl]
        rw [HV] at HU
        generalize Nib.itr (Nib.parStep s down) k p = A at *
        go_wp2_with fail
        refine (HU.out _).mono ?_
        rintro r2 w2 ⟨rfl, h2⟩
        obtain ⟨hc2, hf2⟩ := bcell h2
        have hz2 := h2.size
        (try simp at hz2)
        have RB2 : Two w2 (w.heap.size + 1) (0) (0) := (by repeat (with_reducible first | exact RB | refine t_o ?_ _ | refine Two.alloc ?_ _ | refine Two.drewN ?_ _ | refine Two.drew ?_ | refine Two.below ?_ h2))
        have RB2_0 := RB2.c0
        have RB2_1 := RB2.c1
        have RB2_z := RB2.fz
        have RB2_l := RB2.lt
        go_wp2
        all_goals
          first
            | (refine bodyPost_ret (v := .tuple #[.agg #[.int .i64 (wayX (R)), .int .i64 (wayK (R))], .bool (wayZ (R))]) (by simp [results, Tryz.results211, go_sem, RB2_0, RB2_1, RB2_z, RB2_l]) rfl ⟨rfl, ?_⟩ <;> repeat (with_reducible first | exact Below.refl _ _ | refine b_s ?_ _ | refine b_a ?_ _ | refine Below.drew ?_ | refine below_drewN ?_ _ | refine b_t ?_ h2 | refine b_t ?_ hB))
      | false =>
        have HV : ((Nib.parQ s p k down false : Nat) : Int) = if ((Nib.lst s (Nib.itr (Nib.parStep s down) k p) : Nat) : Int) < ((Nib.itr (Nib.parStep s down) k p : Nat) : Int) then ((Nib.lst s (Nib.itr (Nib.parStep s down) k p) : Nat) : Int) else ((Nib.itr (Nib.parStep s down) k p : Nat) : Int) := by
          unfold Nib.parQ; rw [if_neg (by simp)]; unfold Nib.clm; split <;> split <;> first | rfl | omega
        rw [HV] at HU
        clear HV
        have hfl := Nib.fin_le hq
        have HL : Hid (∀ ww, Calls Tryz.prog 195 #[.string s, .int .i64 (Nib.itr (Nib.parStep s down) k p : Nat)] ww fun e w' => e = .returned (.agg #[.int .i64 (Nib.beg s (Nib.itr (Nib.parStep s down) k p)), .int .i64 (Nib.fin s (Nib.itr (Nib.parStep s down) k p))]) ∧ Below ww.heap.size ww w') := fun ww => tLine_any s _ _ ww hs rfl hq
        have HT : Hid (∀ ww, Calls Tryz.prog 202 #[.agg #[.int .i64 (Nib.beg s (Nib.itr (Nib.parStep s down) k p)), .int .i64 (Nib.fin s (Nib.itr (Nib.parStep s down) k p))]] ww fun e w' => e = .returned (.int .i64 (Nib.lst s (Nib.itr (Nib.parStep s down) k p) : Nat)) ∧ Below ww.heap.size ww w') := by
          intro ww; rw [Nib.lst_max]; exact tLast_any _ _ ww (by omega)
        generalize Nib.lst s (Nib.itr (Nib.parStep s down) k p) = L at *
        generalize Nib.beg s (Nib.itr (Nib.parStep s down) k p) = B at *
        generalize Nib.fin s (Nib.itr (Nib.parStep s down) k p) = E at *
        generalize Nib.itr (Nib.parStep s down) k p = A at *
        by_cases hLA : (L : Int) < (A : Int)
        · rw [if_pos hLA] at HU
          go_wp2_with fail
          refine (HL.out _).mono ?_
          rintro r2 w2 ⟨rfl, h2⟩
          obtain ⟨hc2, hf2⟩ := bcell h2
          have hz2 := h2.size
          (try simp at hz2)
          have RB2 : Two w2 (w.heap.size + 1) (0) (0) := (by repeat (with_reducible first | exact RB | refine t_o ?_ _ | refine Two.alloc ?_ _ | refine Two.drewN ?_ _ | refine Two.drew ?_ | refine Two.below ?_ h2))
          have RB2_0 := RB2.c0
          have RB2_1 := RB2.c1
          have RB2_z := RB2.fz
          have RB2_l := RB2.lt
          go_wp2_with fail
          refine (HT.out _).mono ?_
          rintro r3 w3 ⟨rfl, h3⟩
          obtain ⟨hc3, hf3⟩ := bcell h3
          have hz3 := h3.size
          (try simp at hz3)
          have RB3 : Two w3 (w.heap.size + 1) (0) (0) := (by repeat (with_reducible first | exact RB | refine t_o ?_ _ | refine Two.alloc ?_ _ | refine Two.drewN ?_ _ | refine Two.drew ?_ | refine Two.below ?_ h3 | refine Two.below ?_ h2))
          have RB3_0 := RB3.c0
          have RB3_1 := RB3.c1
          have RB3_z := RB3.fz
          have RB3_l := RB3.lt
          have F3 := (F.below h2).below h3
          have g0 := F3.c0; have g1 := F3.c1; have g2 := F3.c2; have g3 := F3.c3; have g4 := F3.c4
          clear hc2 hf2 hc3 hf3
          go_wp2_with fail
          refine (HU.out _).mono ?_
          rintro r4 w4 ⟨rfl, h4⟩
          obtain ⟨hc4, hf4⟩ := bcell h4
          have hz4 := h4.size
          (try simp at hz4)
          have RB4 : Two w4 (w.heap.size + 1) (0) (0) := (by repeat (with_reducible first | exact RB | refine t_o ?_ _ | refine Two.alloc ?_ _ | refine Two.drewN ?_ _ | refine Two.drew ?_ | refine Two.below ?_ h4 | refine Two.below ?_ h3 | refine Two.below ?_ h2))
          have RB4_0 := RB4.c0
          have RB4_1 := RB4.c1
          have RB4_z := RB4.fz
          have RB4_l := RB4.lt
          go_wp2
          all_goals
            first
              | (refine bodyPost_ret (v := .tuple #[.agg #[.int .i64 (wayX (R)), .int .i64 (wayK (R))], .bool (wayZ (R))]) (by simp [results, Tryz.results211, go_sem, RB4_0, RB4_1, RB4_z, RB4_l]) rfl ⟨rfl, ?_⟩ <;> repeat (with_reducible first | exact Below.refl _ _ | refine b_s ?_ _ | refine b_a ?_ _ | refine Below.drew ?_ | refine below_drewN ?_ _ | refine b_t ?_ h4 | refine b_t ?_ h3 | refine b_t ?_ h2 | refine b_t ?_ hB))
        · rw [if_neg hLA] at HU
          have hLA' : (A : Int) ≤ (L : Int) := by omega
          clear hLA
          go_wp2_with fail
          refine (HL.out _).mono ?_
          rintro r2 w2 ⟨rfl, h2⟩
          obtain ⟨hc2, hf2⟩ := bcell h2
          have hz2 := h2.size
          (try simp at hz2)
          have RB2 : Two w2 (w.heap.size + 1) (0) (0) := (by repeat (with_reducible first | exact RB | refine t_o ?_ _ | refine Two.alloc ?_ _ | refine Two.drewN ?_ _ | refine Two.drew ?_ | refine Two.below ?_ h2))
          have RB2_0 := RB2.c0
          have RB2_1 := RB2.c1
          have RB2_z := RB2.fz
          have RB2_l := RB2.lt
          go_wp2_with fail
          refine (HT.out _).mono ?_
          rintro r3 w3 ⟨rfl, h3⟩
          obtain ⟨hc3, hf3⟩ := bcell h3
          have hz3 := h3.size
          (try simp at hz3)
          have RB3 : Two w3 (w.heap.size + 1) (0) (0) := (by repeat (with_reducible first | exact RB | refine t_o ?_ _ | refine Two.alloc ?_ _ | refine Two.drewN ?_ _ | refine Two.drew ?_ | refine Two.below ?_ h3 | refine Two.below ?_ h2))
          have RB3_0 := RB3.c0
          have RB3_1 := RB3.c1
          have RB3_z := RB3.fz
          have RB3_l := RB3.lt
          have F3 := (F.below h2).below h3
          have g0 := F3.c0; have g1 := F3.c1; have g2 := F3.c2; have g3 := F3.c3; have g4 := F3.c4
          clear hc2 hf2 hc3 hf3
          go_wp2_with fail
          refine (HU.out _).mono ?_
          rintro r4 w4 ⟨rfl, h4⟩
          obtain ⟨hc4, hf4⟩ := bcell h4
          have hz4 := h4.size
          (try simp at hz4)
          have RB4 : Two w4 (w.heap.size + 1) (0) (0) := (by repeat (with_reducible first | exact RB | refine t_o ?_ _ | refine Two.alloc ?_ _ | refine Two.drewN ?_ _ | refine Two.drew ?_ | refine Two.below ?_ h4 | refine Two.below ?_ h3 | refine Two.below ?_ h2))
          have RB4_0 := RB4.c0
          have RB4_1 := RB4.c1
          have RB4_z := RB4.fz
          have RB4_l := RB4.lt
          go_wp2
          all_goals
            first
              | (refine bodyPost_ret (v := .tuple #[.agg #[.int .i64 (wayX (R)), .int .i64 (wayK (R))], .bool (wayZ (R))]) (by simp [results, Tryz.results211, go_sem, RB4_0, RB4_1, RB4_z, RB4_l]) rfl ⟨rfl, ?_⟩ <;> repeat (with_reducible first | exact Below.refl _ _ | refine b_s ?_ _ | refine b_a ?_ _ | refine Below.drew ?_ | refine below_drewN ?_ _ | refine b_t ?_ h4 | refine b_t ?_ h3 | refine b_t ?_ h2 | refine b_t ?_ hB))
end Go.Proofs.YtlendfhehhacpaaGreat
