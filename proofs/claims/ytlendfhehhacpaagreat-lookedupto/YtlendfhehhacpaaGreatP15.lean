/- Joined of the texts WaysE. -/
import Derived.Test.YtlendfhehhacpaaGreatP14
set_option linter.unusedVariables false
set_option linter.unusedSimpArgs false
set_option maxRecDepth 100000
set_option maxHeartbeats 8000000
namespace Go.Proofs.YtlendfhehhacpaaGreat
open Go.RowKit
theorem sParStep_down (s : ByteArray) (p : Nat) (w : World) (hs : s.size ≤ 1000) (hp : p ≤ s.size) :
    Calls Tryz.prog 253 #[.string s, .int .i64 p, .int .i64 1] w fun e w' => e = .returned (.int .i64 (Nib.parStep s true p)) ∧ Below w.heap.size w w' := by
  have hm := Nib.lin_lt hp
  have HL : Hid (∀ ww, Calls Tryz.prog 195 #[.string s, .int .i64 p] ww fun e w' => e = .returned (.agg #[.int .i64 (Nib.att s (Nib.lin s p)), .int .i64 (Nib.fin s (Nib.att s (Nib.lin s p)))]) ∧ Below ww.heap.size ww w') := by
    intro ww
    have := tLine_any s p p ww hs rfl hp
    rw [Nib.fin_eq hp, Nib.beg_eq hp] at this
    exact this
  have HX : Hid (Nib.parD s (Nib.lns s - 1 - Nib.lin s p) (Nib.lin s p + 1) = Nib.parStep s true p) := by rw [Hid]; unfold Nib.parStep; rw [if_pos rfl]
  generalize Nib.parStep s true p = X at *
  generalize Nib.lin s p = m at *
  go_enter Tryz.func253, Tryz.ntmps253
  go_wp2_with fail
  refine (HL.out _).mono ?_
  rintro e w1 ⟨rfl, h1⟩
  obtain ⟨hc1, hf1⟩ := bcell h1
  have hz1 := h1.size
  try simp at hz1
  go_wp2
  go_loopw [8, 9] (fun _ _ wr => ∃ j : Nat, m ≤ j ∧ j < Nib.lns s ∧ Two wr w1.heap.size (Nib.att s j) (Nib.fin s (Nib.att s j)) ∧ Below w.heap.size w wr ∧ Hid (Nib.parD s (Nib.lns s - 1 - j) (j + 1) = X)) (fun _ _ wr => s.size + 1 - (intOf ((wr.cell? ⟨w1.heap.size, 0, none⟩).getD undef)).toNat)
  case atStart =>
    refine ⟨m, Nat.le_refl _, hm, Two.new _ _ _ _, ?_, HX⟩
    repeat (with_reducible first | exact Below.refl _ _ | refine b_s ?_ _ | refine b_a ?_ _ | refine Below.drew ?_ | refine below_drewN ?_ _ | refine b_t ?_ h1)
  case round =>
    clear HX
    obtain ⟨j, hj1, hj2, T, hB, hu⟩ := hrel
    have c0 := (T).c0
    have c1 := (T).c1
    have cz := (T).fz
    have cl := (T).lt
    have hz := hB.size
    have ha := (Nib.att_in hj2).1
    by_cases hne : j + 1 < Nib.lns s
    · have hnf : Nib.fin s (Nib.att s j) + 1 = Nib.att s (j + 1) := rfl
      have hfg := Nib.fin_ge s (Nib.att s j)
      have hfl := Nib.fin_lt_of hne
      have HE1 : Hid (∀ ww, Calls Tryz.prog 185 #[.agg #[.int .i64 (Nib.att s (j + 1)), .int .i64 (Nib.fin s (Nib.att s (j + 1)))]] ww fun e w' => e = .returned (.bool (Nib.emp s (Nib.att s (j + 1)))) ∧ Below ww.heap.size ww w') := by
        intro ww; rw [Nib.emp_att hne]; exact tIsEmpty_any _ _ ww
      have HE2 : Hid (∀ ww, Calls Tryz.prog 185 #[.agg #[.int .i64 (Nib.att s j), .int .i64 (Nib.fin s (Nib.att s j))]] ww fun e w' => e = .returned (.bool (Nib.emp s (Nib.att s j))) ∧ Below ww.heap.size ww w') := by
        intro ww; rw [Nib.emp_att hj2]; exact tIsEmpty_any _ _ ww
      have HU : Hid (X = if (Nib.emp s (Nib.att s (j + 1)) && !Nib.emp s (Nib.att s j)) = true then Nib.att s (j + 1) else Nib.parD s (Nib.lns s - 1 - (j + 1)) (j + 1 + 1)) := by
        rw [Hid, ← hu.out, show Nib.lns s - 1 - j = (Nib.lns s - 1 - (j + 1)) + 1 by omega]; rfl
      clear hu
      have HBs : Hid (∀ ww, Calls Tryz.prog 223 #[.string s, .agg #[.int .i64 (Nib.att s j), .int .i64 (Nib.fin s (Nib.att s j))], .int .i64 1] ww fun e w' => e = .returned (.tuple #[.agg #[.int .i64 (Nib.att s (j + 1)), .int .i64 (Nib.fin s (Nib.att s (j + 1)))], .bool true]) ∧ Below ww.heap.size ww w') := fun ww => tBeside_down s _ _ _ j ww hs rfl rfl rfl hne
      have hlt1 : Nib.att s j < Nib.att s (j + 1) := by omega
      have hlt2 : Nib.att s (j + 1) ≤ s.size := by omega
      clear hnf
      generalize Nib.emp s (Nib.att s (j + 1)) = E1 at *
      generalize Nib.emp s (Nib.att s j) = E2 at *
      generalize hNF : Nib.fin s (Nib.att s (j + 1)) = NF at *
      generalize hNA : Nib.att s (j + 1) = NA at *
      have HNA : Hid (Nib.att s (j + 1) = NA) := hNA
      have HNF : Hid (Nib.fin s NA = NF) := hNF
      clear hNA hNF
      generalize hJF : Nib.fin s (Nib.att s j) = JF at *
      generalize hJA : Nib.att s j = JA at *
      clear hJF hJA
      cases E1 with
      | false =>
        have HS : Hid (Nib.parD s (Nib.lns s - 1 - (j + 1)) (j + 1 + 1) = X) := by rw [Hid, HU.out]; simp
        clear HU
        go_wp2_with fail
        refine (HBs.out _).mono ?_
        rintro r2 w2 ⟨rfl, h2⟩
        obtain ⟨hc2, hf2⟩ := bcell h2
        have hz2 := h2.size
        (try simp at hz2)
        have T2 : Two w2 (w1.heap.size) (JA) (JF) := (by repeat (with_reducible first | exact T | refine t_o ?_ _ | refine Two.alloc ?_ _ | refine Two.drewN ?_ _ | refine Two.drew ?_ | refine Two.below ?_ h2))
        have T2_0 := T2.c0
        have T2_1 := T2.c1
        have T2_z := T2.fz
        have T2_l := T2.lt
        have N : Two (w2.alloc (.cells #[.int .i64 NA, .int .i64 NF] 128)) w2.heap.size NA NF := Two.new _ _ _ _
        go_wp2_with fail
        refine (HE1.out _).mono ?_
        rintro r3 w3 ⟨rfl, h3⟩
        obtain ⟨hc3, hf3⟩ := bcell h3
        have hz3 := h3.size
        (try simp at hz3)
        have T3 : Two w3 (w1.heap.size) (JA) (JF) := (by repeat (with_reducible first | exact T | refine t_o ?_ _ | refine Two.alloc ?_ _ | refine Two.drewN ?_ _ | refine Two.drew ?_ | refine Two.below ?_ h3 | refine Two.below ?_ h2))
        have T3_0 := T3.c0
        have T3_1 := T3.c1
        have T3_z := T3.fz
        have T3_l := T3.lt
        have N3 : Two w3 (w2.heap.size) (NA) (NF) := (by repeat (with_reducible first | exact N | refine t_o ?_ _ | refine Two.alloc ?_ _ | refine Two.drewN ?_ _ | refine Two.drew ?_ | refine Two.below ?_ h3 | refine Two.below ?_ h2))
        have N3_0 := N3.c0
        have N3_1 := N3.c1
        have N3_z := N3.fz
        have N3_l := N3.lt
        have hNA := HNA.out
        have hNF := HNF.out
        clear hc2 hf2 hc3 hf3
        go_wp2
        go_round
        case rel =>
          refine ⟨j + 1, by omega, hne, ?_, ?_, HS⟩
          · rw [hNA, hNF]
            exact Two.set1 (Two.set0 T3 _) _
          · repeat (with_reducible first | exact Below.refl _ _ | refine b_s ?_ _ | refine b_a ?_ _ | refine Below.drew ?_ | refine below_drewN ?_ _ | refine b_t ?_ h3 | refine b_t ?_ h2 | refine b_t ?_ hB)
        case measure =>
          rw [(Two.set1 (Two.set0 T3 NA) NF).c0, c0]
          simp [intOf] <;> omega
      | true =>
        cases E2 with
        | false =>
          have HS : Hid (X = NA) := by rw [Hid, HU.out]; simp
          clear HU
          go_wp2_with fail
          refine (HBs.out _).mono ?_
          rintro r2 w2 ⟨rfl, h2⟩
          obtain ⟨hc2, hf2⟩ := bcell h2
          have hz2 := h2.size
          (try simp at hz2)
          have T2 : Two w2 (w1.heap.size) (JA) (JF) := (by repeat (with_reducible first | exact T | refine t_o ?_ _ | refine Two.alloc ?_ _ | refine Two.drewN ?_ _ | refine Two.drew ?_ | refine Two.below ?_ h2))
          have T2_0 := T2.c0
          have T2_1 := T2.c1
          have T2_z := T2.fz
          have T2_l := T2.lt
          have N : Two (w2.alloc (.cells #[.int .i64 NA, .int .i64 NF] 128)) w2.heap.size NA NF := Two.new _ _ _ _
          go_wp2_with fail
          refine (HE1.out _).mono ?_
          rintro r3 w3 ⟨rfl, h3⟩
          obtain ⟨hc3, hf3⟩ := bcell h3
          have hz3 := h3.size
          (try simp at hz3)
          have T3 : Two w3 (w1.heap.size) (JA) (JF) := (by repeat (with_reducible first | exact T | refine t_o ?_ _ | refine Two.alloc ?_ _ | refine Two.drewN ?_ _ | refine Two.drew ?_ | refine Two.below ?_ h3 | refine Two.below ?_ h2))
          have T3_0 := T3.c0
          have T3_1 := T3.c1
          have T3_z := T3.fz
          have T3_l := T3.lt
          have N3 : Two w3 (w2.heap.size) (NA) (NF) := (by repeat (with_reducible first | exact N | refine t_o ?_ _ | refine Two.alloc ?_ _ | refine Two.drewN ?_ _ | refine Two.drew ?_ | refine Two.below ?_ h3 | refine Two.below ?_ h2))
          have N3_0 := N3.c0
          have N3_1 := N3.c1
          have N3_z := N3.fz
          have N3_l := N3.lt
          go_wp2_with fail
          refine (HE2.out _).mono ?_
          rintro r4 w4 ⟨rfl, h4⟩
          obtain ⟨hc4, hf4⟩ := bcell h4
          have hz4 := h4.size
          (try simp at hz4)
          have T4 : Two w4 (w1.heap.size) (JA) (JF) := (by repeat (with_reducible first | exact T | refine t_o ?_ _ | refine Two.alloc ?_ _ | refine Two.drewN ?_ _ | refine Two.drew ?_ | refine Two.below ?_ h4 | refine Two.below ?_ h3 | refine Two.below ?_ h2))
          have T4_0 := T4.c0
          have T4_1 := T4.c1
          have T4_z := T4.fz
          have T4_l := T4.lt
          have N4 : Two w4 (w2.heap.size) (NA) (NF) := (by repeat (with_reducible first | exact N | refine t_o ?_ _ | refine Two.alloc ?_ _ | refine Two.drewN ?_ _ | refine Two.drew ?_ | refine Two.below ?_ h4 | refine Two.below ?_ h3 | refine Two.below ?_ h2))
          have N4_0 := N4.c0
          have N4_1 := N4.c1
          have N4_z := N4.fz
          have N4_l := N4.lt
          go_wp2
          all_goals
            first
              | (refine bodyPost_ret (v := .int .i64 NA) (by simp [results, Tryz.results253, go_sem]) rfl ⟨ret_int (by rw [HS.out]), ?_⟩ <;> repeat (with_reducible first | exact Below.refl _ _ | refine b_s ?_ _ | refine b_a ?_ _ | refine Below.drew ?_ | refine below_drewN ?_ _ | refine b_t ?_ h4 | refine b_t ?_ h3 | refine b_t ?_ h2 | refine b_t ?_ hB))
        | true =>
          have HS : Hid (Nib.parD s (Nib.lns s - 1 - (j + 1)) (j + 1 + 1) = X) := by rw [Hid, HU.out]; simp
          clear HU
          go_wp2_with fail
          refine (HBs.out _).mono ?_
          rintro r2 w2 ⟨rfl, h2⟩
          obtain ⟨hc2, hf2⟩ := bcell h2
          have hz2 := h2.size
          (try simp at hz2)
          have T2 : Two w2 (w1.heap.size) (JA) (JF) := (by repeat (with_reducible first | exact T | refine t_o ?_ _ | refine Two.alloc ?_ _ | refine Two.drewN ?_ _ | refine Two.drew ?_ | refine Two.below ?_ h2))
          have T2_0 := T2.c0
          have T2_1 := T2.c1
          have T2_z := T2.fz
          have T2_l := T2.lt
          have N : Two (w2.alloc (.cells #[.int .i64 NA, .int .i64 NF] 128)) w2.heap.size NA NF := Two.new _ _ _ _
          go_wp2_with fail
          refine (HE1.out _).mono ?_
          rintro r3 w3 ⟨rfl, h3⟩
          obtain ⟨hc3, hf3⟩ := bcell h3
          have hz3 := h3.size
          (try simp at hz3)
          have T3 : Two w3 (w1.heap.size) (JA) (JF) := (by repeat (with_reducible first | exact T | refine t_o ?_ _ | refine Two.alloc ?_ _ | refine Two.drewN ?_ _ | refine Two.drew ?_ | refine Two.below ?_ h3 | refine Two.below ?_ h2))
          have T3_0 := T3.c0
          have T3_1 := T3.c1
          have T3_z := T3.fz
          have T3_l := T3.lt
          have N3 : Two w3 (w2.heap.size) (NA) (NF) := (by repeat (with_reducible first | exact N | refine t_o ?_ _ | refine Two.alloc ?_ _ | refine Two.drewN ?_ _ | refine Two.drew ?_ | refine Two.below ?_ h3 | refine Two.below ?_ h2))
          have N3_0 := N3.c0
          have N3_1 := N3.c1
          have N3_z := N3.fz
          have N3_l := N3.lt
          go_wp2_with fail
          refine (HE2.out _).mono ?_
          rintro r4 w4 ⟨rfl, h4⟩
          obtain ⟨hc4, hf4⟩ := bcell h4
          have hz4 := h4.size
          (try simp at hz4)
          have T4 : Two w4 (w1.heap.size) (JA) (JF) := (by repeat (with_reducible first | exact T | refine t_o ?_ _ | refine Two.alloc ?_ _ | refine Two.drewN ?_ _ | refine Two.drew ?_ | refine Two.below ?_ h4 | refine Two.below ?_ h3 | refine Two.below ?_ h2))
          have T4_0 := T4.c0
          have T4_1 := T4.c1
          have T4_z := T4.fz
          have T4_l := T4.lt
          have N4 : Two w4 (w2.heap.size) (NA) (NF) := (by repeat (with_reducible first | exact N | refine t_o ?_ _ | refine Two.alloc ?_ _ | refine Two.drewN ?_ _ | refine Two.drew ?_ | refine Two.below ?_ h4 | refine Two.below ?_ h3 | refine Two.below ?_ h2))
          have N4_0 := N4.c0
          have N4_1 := N4.c1
          have N4_z := N4.fz
          have N4_l := N4.lt
          have hNA := HNA.out
          have hNF := HNF.out
          clear hc2 hf2 hc3 hf3 hc4 hf4
          go_wp2
          go_round
          case rel =>
            refine ⟨j + 1, by omega, hne, ?_, ?_, HS⟩
            · rw [hNA, hNF]
              exact Two.set1 (Two.set0 T4 _) _
            · repeat (with_reducible first | exact Below.refl _ _ | refine b_s ?_ _ | refine b_a ?_ _ | refine Below.drew ?_ | refine below_drewN ?_ _ | refine b_t ?_ h4 | refine b_t ?_ h3 | refine b_t ?_ h2 | refine b_t ?_ hB)
          case measure =>
            rw [(Two.set1 (Two.set0 T4 NA) NF).c0, c0]
            simp [intOf] <;> omega
    · have HS : Hid (X = s.size) := by
        rw [Hid, ← hu.out, show Nib.lns s - 1 - j = 0 by omega]; rfl
      clear hu
      have hF := Nib.fin_last (s := s) (m := j) (by omega)
      have HBs : Hid (∀ ww, Calls Tryz.prog 223 #[.string s, .agg #[.int .i64 (Nib.att s j), .int .i64 (Nib.fin s (Nib.att s j))], .int .i64 1] ww fun e w' => e = .returned (.tuple #[.agg #[.int .i64 (0), .int .i64 (0)], .bool false]) ∧ Below ww.heap.size ww w') := fun ww => tBeside_none s _ _ _ ww hs (Or.inl rfl) (fun _ => by omega) (fun h => by omega)
      clear hF
      generalize Nib.fin s (Nib.att s j) = JF at *
      generalize Nib.att s j = JA at *
      go_wp2_with fail
      refine (HBs.out _).mono ?_
      rintro r2 w2 ⟨rfl, h2⟩
      obtain ⟨hc2, hf2⟩ := bcell h2
      have hz2 := h2.size
      (try simp at hz2)
      have T2 : Two w2 (w1.heap.size) (JA) (JF) := (by repeat (with_reducible first | exact T | refine t_o ?_ _ | refine Two.alloc ?_ _ | refine Two.drewN ?_ _ | refine Two.drew ?_ | refine Two.below ?_ h2))
      have T2_0 := T2.c0
      have T2_1 := T2.c1
      have T2_z := T2.fz
      have T2_l := T2.lt
      go_wp2_with fail
      refine (tEnd_any s _).mono ?_
      rintro e w' ⟨rfl, rfl⟩
      go_wp2
      all_goals
        first
          | (refine bodyPost_ret (v := .int .i64 s.size) (by simp [results, Tryz.results253, go_sem]) rfl ⟨ret_int (by rw [HS.out]), ?_⟩ <;> repeat (with_reducible first | exact Below.refl _ _ | refine b_s ?_ _ | refine b_a ?_ _ | refine Below.drew ?_ | refine below_drewN ?_ _ | refine b_t ?_ h2 | refine b_t ?_ hB))
theorem sParStep_up (s : ByteArray) (p : Nat) (w : World) (hs : s.size ≤ 1000) (hp : p ≤ s.size) :
    Calls Tryz.prog 253 #[.string s, .int .i64 p, .int .i64 (-1)] w fun e w' => e = .returned (.int .i64 (Nib.parStep s false p)) ∧ Below w.heap.size w w' := by
  have hm := Nib.lin_lt hp
  have HL : Hid (∀ ww, Calls Tryz.prog 195 #[.string s, .int .i64 p] ww fun e w' => e = .returned (.agg #[.int .i64 (Nib.att s (Nib.lin s p)), .int .i64 (Nib.fin s (Nib.att s (Nib.lin s p)))]) ∧ Below ww.heap.size ww w') := by
    intro ww
    have := tLine_any s p p ww hs rfl hp
    rw [Nib.fin_eq hp, Nib.beg_eq hp] at this
    exact this
  have HX : Hid (Nib.parU s (Nib.lin s p) = Nib.parStep s false p) := by rw [Hid]; unfold Nib.parStep; rw [if_neg (by simp)]
  generalize Nib.parStep s false p = X at *
  generalize Nib.lin s p = m at *
  go_enter Tryz.func253, Tryz.ntmps253
  go_wp2_with fail
  refine (HL.out _).mono ?_
  rintro e w1 ⟨rfl, h1⟩
  obtain ⟨hc1, hf1⟩ := bcell h1
  have hz1 := h1.size
  try simp at hz1
  go_wp2
  go_loopw [8, 9] (fun _ _ wr => ∃ j : Nat, j ≤ m ∧ j < Nib.lns s ∧ Two wr w1.heap.size (Nib.att s j) (Nib.fin s (Nib.att s j)) ∧ Below w.heap.size w wr ∧ Hid (Nib.parU s j = X)) (fun _ _ wr => (intOf ((wr.cell? ⟨w1.heap.size, 0, none⟩).getD undef)).toNat)
  case atStart =>
    refine ⟨m, Nat.le_refl _, hm, Two.new _ _ _ _, ?_, HX⟩
    repeat (with_reducible first | exact Below.refl _ _ | refine b_s ?_ _ | refine b_a ?_ _ | refine Below.drew ?_ | refine below_drewN ?_ _ | refine b_t ?_ h1)
  case round =>
    clear HX
    obtain ⟨j, hj1, hj2, T, hB, hu⟩ := hrel
    have c0 := (T).c0
    have c1 := (T).c1
    have cz := (T).fz
    have cl := (T).lt
    have hz := hB.size
    have ha := (Nib.att_in hj2).1
    by_cases hne : 0 < j
    · have hne2 : j - 1 < Nib.lns s := by omega
      have hnf : Nib.fin s (Nib.att s (j - 1)) + 1 = Nib.att s j := by
        obtain ⟨k, rfl⟩ : ∃ k, j = k + 1 := ⟨j - 1, by omega⟩
        rfl
      have hfg := Nib.fin_ge s (Nib.att s (j - 1))
      have HE1 : Hid (∀ ww, Calls Tryz.prog 185 #[.agg #[.int .i64 (Nib.att s (j - 1)), .int .i64 (Nib.fin s (Nib.att s (j - 1)))]] ww fun e w' => e = .returned (.bool (Nib.emp s (Nib.att s (j - 1)))) ∧ Below ww.heap.size ww w') := by
        intro ww; rw [Nib.emp_att hne2]; exact tIsEmpty_any _ _ ww
      have HE2 : Hid (∀ ww, Calls Tryz.prog 185 #[.agg #[.int .i64 (Nib.att s j), .int .i64 (Nib.fin s (Nib.att s j))]] ww fun e w' => e = .returned (.bool (Nib.emp s (Nib.att s j))) ∧ Below ww.heap.size ww w') := by
        intro ww; rw [Nib.emp_att hj2]; exact tIsEmpty_any _ _ ww
      have HU : Hid (X = if (Nib.emp s (Nib.att s (j - 1)) && !Nib.emp s (Nib.att s j)) = true then Nib.att s (j - 1) else Nib.parU s (j - 1)) := by
        rw [Hid, ← hu.out]
        obtain ⟨k, rfl⟩ : ∃ k, j = k + 1 := ⟨j - 1, by omega⟩
        rfl
      clear hu
      have HBs : Hid (∀ ww, Calls Tryz.prog 223 #[.string s, .agg #[.int .i64 (Nib.att s j), .int .i64 (Nib.fin s (Nib.att s j))], .int .i64 (-1)] ww fun e w' => e = .returned (.tuple #[.agg #[.int .i64 (Nib.att s (j - 1)), .int .i64 (Nib.fin s (Nib.att s (j - 1)))], .bool true]) ∧ Below ww.heap.size ww w') := fun ww => tBeside_up s _ _ _ j ww hs rfl hj2 rfl hne
      have hlt1 : Nib.att s (j - 1) < Nib.att s j := by omega
      clear hnf
      generalize Nib.emp s (Nib.att s (j - 1)) = E1 at *
      generalize Nib.emp s (Nib.att s j) = E2 at *
      generalize hNF : Nib.fin s (Nib.att s (j - 1)) = NF at *
      generalize hNA : Nib.att s (j - 1) = NA at *
      have HNA : Hid (Nib.att s (j - 1) = NA) := hNA
      have HNF : Hid (Nib.fin s NA = NF) := hNF
      clear hNA hNF
      generalize hJF : Nib.fin s (Nib.att s j) = JF at *
      generalize hJA : Nib.att s j = JA at *
      clear hJF hJA
      cases E1 with
      | false =>
        have HS : Hid (Nib.parU s (j - 1) = X) := by rw [Hid, HU.out]; simp
        clear HU
        go_wp2_with fail
        refine (HBs.out _).mono ?_
        rintro r2 w2 ⟨rfl, h2⟩
        obtain ⟨hc2, hf2⟩ := bcell h2
        have hz2 := h2.size
        (try simp at hz2)
        have T2 : Two w2 (w1.heap.size) (JA) (JF) := (by repeat (with_reducible first | exact T | refine t_o ?_ _ | refine Two.alloc ?_ _ | refine Two.drewN ?_ _ | refine Two.drew ?_ | refine Two.below ?_ h2))
        have T2_0 := T2.c0
        have T2_1 := T2.c1
        have T2_z := T2.fz
        have T2_l := T2.lt
        have N : Two (w2.alloc (.cells #[.int .i64 NA, .int .i64 NF] 128)) w2.heap.size NA NF := Two.new _ _ _ _
        go_wp2_with fail
        refine (HE1.out _).mono ?_
        rintro r3 w3 ⟨rfl, h3⟩
        obtain ⟨hc3, hf3⟩ := bcell h3
        have hz3 := h3.size
        (try simp at hz3)
        have T3 : Two w3 (w1.heap.size) (JA) (JF) := (by repeat (with_reducible first | exact T | refine t_o ?_ _ | refine Two.alloc ?_ _ | refine Two.drewN ?_ _ | refine Two.drew ?_ | refine Two.below ?_ h3 | refine Two.below ?_ h2))
        have T3_0 := T3.c0
        have T3_1 := T3.c1
        have T3_z := T3.fz
        have T3_l := T3.lt
        have N3 : Two w3 (w2.heap.size) (NA) (NF) := (by repeat (with_reducible first | exact N | refine t_o ?_ _ | refine Two.alloc ?_ _ | refine Two.drewN ?_ _ | refine Two.drew ?_ | refine Two.below ?_ h3 | refine Two.below ?_ h2))
        have N3_0 := N3.c0
        have N3_1 := N3.c1
        have N3_z := N3.fz
        have N3_l := N3.lt
        have hNA := HNA.out
        have hNF := HNF.out
        clear hc2 hf2 hc3 hf3
        go_wp2
        go_round
        case rel =>
          refine ⟨j - 1, by omega, hne2, ?_, ?_, HS⟩
          · rw [hNA, hNF]
            exact Two.set1 (Two.set0 T3 _) _
          · repeat (with_reducible first | exact Below.refl _ _ | refine b_s ?_ _ | refine b_a ?_ _ | refine Below.drew ?_ | refine below_drewN ?_ _ | refine b_t ?_ h3 | refine b_t ?_ h2 | refine b_t ?_ hB)
        case measure =>
          rw [(Two.set1 (Two.set0 T3 NA) NF).c0, c0]
          simp [intOf] <;> omega
      | true =>
        cases E2 with
        | false =>
          have HS : Hid (X = NA) := by rw [Hid, HU.out]; simp
          clear HU
          go_wp2_with fail
          refine (HBs.out _).mono ?_
          rintro r2 w2 ⟨rfl, h2⟩
          obtain ⟨hc2, hf2⟩ := bcell h2
          have hz2 := h2.size
          (try simp at hz2)
          have T2 : Two w2 (w1.heap.size) (JA) (JF) := (by repeat (with_reducible first | exact T | refine t_o ?_ _ | refine Two.alloc ?_ _ | refine Two.drewN ?_ _ | refine Two.drew ?_ | refine Two.below ?_ h2))
          have T2_0 := T2.c0
          have T2_1 := T2.c1
          have T2_z := T2.fz
          have T2_l := T2.lt
          have N : Two (w2.alloc (.cells #[.int .i64 NA, .int .i64 NF] 128)) w2.heap.size NA NF := Two.new _ _ _ _
          go_wp2_with fail
          refine (HE1.out _).mono ?_
          rintro r3 w3 ⟨rfl, h3⟩
          obtain ⟨hc3, hf3⟩ := bcell h3
          have hz3 := h3.size
          (try simp at hz3)
          have T3 : Two w3 (w1.heap.size) (JA) (JF) := (by repeat (with_reducible first | exact T | refine t_o ?_ _ | refine Two.alloc ?_ _ | refine Two.drewN ?_ _ | refine Two.drew ?_ | refine Two.below ?_ h3 | refine Two.below ?_ h2))
          have T3_0 := T3.c0
          have T3_1 := T3.c1
          have T3_z := T3.fz
          have T3_l := T3.lt
          have N3 : Two w3 (w2.heap.size) (NA) (NF) := (by repeat (with_reducible first | exact N | refine t_o ?_ _ | refine Two.alloc ?_ _ | refine Two.drewN ?_ _ | refine Two.drew ?_ | refine Two.below ?_ h3 | refine Two.below ?_ h2))
          have N3_0 := N3.c0
          have N3_1 := N3.c1
          have N3_z := N3.fz
          have N3_l := N3.lt
          go_wp2_with fail
          refine (HE2.out _).mono ?_
          rintro r4 w4 ⟨rfl, h4⟩
          obtain ⟨hc4, hf4⟩ := bcell h4
          have hz4 := h4.size
          (try simp at hz4)
          have T4 : Two w4 (w1.heap.size) (JA) (JF) := (by repeat (with_reducible first | exact T | refine t_o ?_ _ | refine Two.alloc ?_ _ | refine Two.drewN ?_ _ | refine Two.drew ?_ | refine Two.below ?_ h4 | refine Two.below ?_ h3 | refine Two.below ?_ h2))
          have T4_0 := T4.c0
          have T4_1 := T4.c1
          have T4_z := T4.fz
          have T4_l := T4.lt
          have N4 : Two w4 (w2.heap.size) (NA) (NF) := (by repeat (with_reducible first | exact N | refine t_o ?_ _ | refine Two.alloc ?_ _ | refine Two.drewN ?_ _ | refine Two.drew ?_ | refine Two.below ?_ h4 | refine Two.below ?_ h3 | refine Two.below ?_ h2))
          have N4_0 := N4.c0
          have N4_1 := N4.c1
          have N4_z := N4.fz
          have N4_l := N4.lt
          go_wp2
          all_goals
            first
              | (refine bodyPost_ret (v := .int .i64 NA) (by simp [results, Tryz.results253, go_sem]) rfl ⟨ret_int (by rw [HS.out]), ?_⟩ <;> repeat (with_reducible first | exact Below.refl _ _ | refine b_s ?_ _ | refine b_a ?_ _ | refine Below.drew ?_ | refine below_drewN ?_ _ | refine b_t ?_ h4 | refine b_t ?_ h3 | refine b_t ?_ h2 | refine b_t ?_ hB))
        | true =>
          have HS : Hid (Nib.parU s (j - 1) = X) := by rw [Hid, HU.out]; simp
          clear HU
          go_wp2_with fail
          refine (HBs.out _).mono ?_
          rintro r2 w2 ⟨rfl, h2⟩
          obtain ⟨hc2, hf2⟩ := bcell h2
          have hz2 := h2.size
          (try simp at hz2)
          have T2 : Two w2 (w1.heap.size) (JA) (JF) := (by repeat (with_reducible first | exact T | refine t_o ?_ _ | refine Two.alloc ?_ _ | refine Two.drewN ?_ _ | refine Two.drew ?_ | refine Two.below ?_ h2))
          have T2_0 := T2.c0
          have T2_1 := T2.c1
          have T2_z := T2.fz
          have T2_l := T2.lt
          have N : Two (w2.alloc (.cells #[.int .i64 NA, .int .i64 NF] 128)) w2.heap.size NA NF := Two.new _ _ _ _
          go_wp2_with fail
          refine (HE1.out _).mono ?_
          rintro r3 w3 ⟨rfl, h3⟩
          obtain ⟨hc3, hf3⟩ := bcell h3
          have hz3 := h3.size
          (try simp at hz3)
          have T3 : Two w3 (w1.heap.size) (JA) (JF) := (by repeat (with_reducible first | exact T | refine t_o ?_ _ | refine Two.alloc ?_ _ | refine Two.drewN ?_ _ | refine Two.drew ?_ | refine Two.below ?_ h3 | refine Two.below ?_ h2))
          have T3_0 := T3.c0
          have T3_1 := T3.c1
          have T3_z := T3.fz
          have T3_l := T3.lt
          have N3 : Two w3 (w2.heap.size) (NA) (NF) := (by repeat (with_reducible first | exact N | refine t_o ?_ _ | refine Two.alloc ?_ _ | refine Two.drewN ?_ _ | refine Two.drew ?_ | refine Two.below ?_ h3 | refine Two.below ?_ h2))
          have N3_0 := N3.c0
          have N3_1 := N3.c1
          have N3_z := N3.fz
          have N3_l := N3.lt
          go_wp2_with fail
          refine (HE2.out _).mono ?_
          rintro r4 w4 ⟨rfl, h4⟩
          obtain ⟨hc4, hf4⟩ := bcell h4
          have hz4 := h4.size
          (try simp at hz4)
          have T4 : Two w4 (w1.heap.size) (JA) (JF) := (by repeat (with_reducible first | exact T | refine t_o ?_ _ | refine Two.alloc ?_ _ | refine Two.drewN ?_ _ | refine Two.drew ?_ | refine Two.below ?_ h4 | refine Two.below ?_ h3 | refine Two.below ?_ h2))
          have T4_0 := T4.c0
          have T4_1 := T4.c1
          have T4_z := T4.fz
          have T4_l := T4.lt
          have N4 : Two w4 (w2.heap.size) (NA) (NF) := (by repeat (with_reducible first | exact N | refine t_o ?_ _ | refine Two.alloc ?_ _ | refine Two.drewN ?_ _ | refine Two.drew ?_ | refine Two.below ?_ h4 | refine Two.below ?_ h3 | refine Two.below ?_ h2))
          have N4_0 := N4.c0
          have N4_1 := N4.c1
          have N4_z := N4.fz
          have N4_l := N4.lt
          have hNA := HNA.out
          have hNF := HNF.out
          clear hc2 hf2 hc3 hf3 hc4 hf4
          go_wp2
          go_round
          case rel =>
            refine ⟨j - 1, by omega, hne2, ?_, ?_, HS⟩
            · rw [hNA, hNF]
              exact Two.set1 (Two.set0 T4 _) _
            · repeat (with_reducible first | exact Below.refl _ _ | refine b_s ?_ _ | refine b_a ?_ _ | refine Below.drew ?_ | refine below_drewN ?_ _ | refine b_t ?_ h4 | refine b_t ?_ h3 | refine b_t ?_ h2 | refine b_t ?_ hB)
          case measure =>
            rw [(Two.set1 (Two.set0 T4 NA) NF).c0, c0]
            simp [intOf] <;> omega
    · have HS : Hid (X = 0) := by
        rw [Hid, ← hu.out, show j = 0 by omega]; rfl
      clear hu
      have hF : Nib.att s j = 0 := by rw [show j = 0 by omega]; rfl
      have HBs : Hid (∀ ww, Calls Tryz.prog 223 #[.string s, .agg #[.int .i64 (Nib.att s j), .int .i64 (Nib.fin s (Nib.att s j))], .int .i64 (-1)] ww fun e w' => e = .returned (.tuple #[.agg #[.int .i64 (0), .int .i64 (0)], .bool false]) ∧ Below ww.heap.size ww w') := fun ww => tBeside_none s _ _ _ ww hs (Or.inr rfl) (fun h => by omega) (fun _ => by omega)
      clear hF
      generalize Nib.fin s (Nib.att s j) = JF at *
      generalize Nib.att s j = JA at *
      go_wp2_with fail
      refine (HBs.out _).mono ?_
      rintro r2 w2 ⟨rfl, h2⟩
      obtain ⟨hc2, hf2⟩ := bcell h2
      have hz2 := h2.size
      (try simp at hz2)
      have T2 : Two w2 (w1.heap.size) (JA) (JF) := (by repeat (with_reducible first | exact T | refine t_o ?_ _ | refine Two.alloc ?_ _ | refine Two.drewN ?_ _ | refine Two.drew ?_ | refine Two.below ?_ h2))
      have T2_0 := T2.c0
      have T2_1 := T2.c1
      have T2_z := T2.fz
      have T2_l := T2.lt
      go_wp2
      all_goals
        first
          | (refine bodyPost_ret (v := .int .i64 0) (by simp [results, Tryz.results253, go_sem]) rfl ⟨ret_int (by rw [HS.out]; rfl), ?_⟩ <;> repeat (with_reducible first | exact Below.refl _ _ | refine b_s ?_ _ | refine b_a ?_ _ | refine Below.drew ?_ | refine below_drewN ?_ _ | refine b_t ?_ h2 | refine b_t ?_ hB))
end Go.Proofs.YtlendfhehhacpaaGreat
