/- A part. -/
import Derived.Test.YtlendfhehhacpaaGreatU20
set_option linter.unusedVariables false
set_option linter.unusedSimpArgs false
set_option maxRecDepth 100000
set_option maxHeartbeats 8000000
namespace Go.Proofs.YtlendfhehhacpaaGreat
open Go.RowKit Nib Tryz
theorem qt19 {P : Prop} (h : P := by
  have HS : Hid (X = NA) := by rw [Hid, HU.out]; simp
  clear HU
  go_wp2_with fail
  refine (HBs.out _).mono ?_
  rintro r2 w2 ⟨rfl, h2⟩
  obtain ⟨hc2, hf2, hz2⟩ := qb h2
  (try simp at hz2)
  have T2 : Two w2 (w1.heap.size) (JA) (JF) := qTw
  have ⟨T2_0, T2_1, T2_z, T2_l⟩ := T2
  have N : Two (w2.alloc (.cells #[.int .i64 NA, .int .i64 NF] 128)) w2.heap.size NA NF := Two.new _ _ _ _
  go_wp2_with fail
  refine (HE1.out _).mono ?_
  rintro r3 w3 ⟨rfl, h3⟩
  obtain ⟨hc3, hf3, hz3⟩ := qb h3
  (try simp at hz3)
  have T3 : Two w3 (w1.heap.size) (JA) (JF) := qTw
  have ⟨T3_0, T3_1, T3_z, T3_l⟩ := T3
  have N3 : Two w3 (w2.heap.size) (NA) (NF) := qTw
  have ⟨N3_0, N3_1, N3_z, N3_l⟩ := N3
  go_wp2_with fail
  refine (HE2.out _).mono ?_
  rintro r4 w4 ⟨rfl, h4⟩
  obtain ⟨hc4, hf4, hz4⟩ := qb h4
  (try simp at hz4)
  have T4 : Two w4 (w1.heap.size) (JA) (JF) := qTw
  have ⟨T4_0, T4_1, T4_z, T4_l⟩ := T4
  have N4 : Two w4 (w2.heap.size) (NA) (NF) := qTw
  have ⟨N4_0, N4_1, N4_z, N4_l⟩ := N4
  go_wp2
  all_goals
   first
    | (exact qV (.int .i64 NA) (by simp [results, results253, go_sem]) (ret_int (by rw [HS.out])))
 ) : P := h
theorem sParStep_down (s : ByteArray) (p : Nat) (w : World) (hs : s.size ≤ 1000) (hp : p ≤ s.size) :
  qC 253 #[.string s, .int .i64 p, .int .i64 1] w (.int .i64 (parStep s true p)) := by
 have hm := lin_lt hp
 have HL : qH 195 #[.string s, .int .i64 p] (.agg #[.int .i64 (att s (lin s p)), .int .i64 (fin s (att s (lin s p)))]) := by
  intro ww
  have := tLine_any s p p ww hs rfl hp
  rw [fin_eq hp, beg_eq hp] at this
  exact this
 have HX : Hid (parD s (lns s - 1 - lin s p) (lin s p + 1) = parStep s true p) := by rw [Hid]; unfold parStep; rw [if_pos rfl]
 generalize parStep s true p = X at *
 generalize lin s p = m at *
 go_enter func253, ntmps253
 go_wp2_with fail
 refine (HL.out _).mono ?_
 rintro e w1 ⟨rfl, h1⟩
 obtain ⟨hc1, hf1, hz1⟩ := qb h1
 try simp at hz1
 go_wp2
 go_loopw [8, 9] (fun _ _ wr => ∃ j : Nat, m ≤ j ∧ j < lns s ∧ Two wr w1.heap.size (att s j) (fin s (att s j)) ∧ Below w.heap.size w wr ∧ Hid (parD s (lns s - 1 - j) (j + 1) = X)) (fun _ _ wr => s.size + 1 - (intOf ((wr.cell? ⟨w1.heap.size, 0, none⟩).getD undef)).toNat)
 case atStart =>
  refine ⟨m, Nat.le_refl _, hm, Two.new _ _ _ _, ?_, HX⟩
  repeat exact qB
 case round =>
  clear HX
  obtain ⟨j, hj1, hj2, T, hB, hu⟩ := hrel
  have c0 := (T).c0
  have c1 := (T).c1
  have cz := (T).fz
  have cl := (T).lt
  have hz := hB.size
  have ha := (att_in hj2).1
  by_cases hne : j + 1 < lns s
  ·have hnf : fin s (att s j) + 1 = att s (j + 1) := rfl
   have hfg := fin_ge s (att s j)
   have hfl := fin_lt_of hne
   have HE1 : qH 185 #[.agg #[.int .i64 (att s (j + 1)), .int .i64 (fin s (att s (j + 1)))]] (.bool (emp s (att s (j + 1)))) := by
    intro ww; rw [emp_att hne]; exact tIsEmpty_any _ _ ww
   have HE2 : qH 185 #[.agg #[.int .i64 (att s j), .int .i64 (fin s (att s j))]] (.bool (emp s (att s j))) := by
    intro ww; rw [emp_att hj2]; exact tIsEmpty_any _ _ ww
   have HU : Hid (X = if (emp s (att s (j + 1)) && !emp s (att s j)) = true then att s (j + 1) else parD s (lns s - 1 - (j + 1)) (j + 1 + 1)) := by
    rw [Hid, ← hu.out, show lns s - 1 - j = (lns s - 1 - (j + 1)) + 1 by omega]; rfl
   clear hu
   have HBs : qH 223 #[.string s, .agg #[.int .i64 (att s j), .int .i64 (fin s (att s j))], .int .i64 1] (.tuple #[.agg #[.int .i64 (att s (j + 1)), .int .i64 (fin s (att s (j + 1)))], .bool true]) := fun ww => tBeside_down s _ _ _ j ww hs rfl rfl rfl hne
   have hlt1 : att s j < att s (j + 1) := by omega
   have hlt2 : att s (j + 1) ≤ s.size := by omega
   clear hnf
   generalize emp s (att s (j + 1)) = E1 at *
   generalize emp s (att s j) = E2 at *
   generalize hNF : fin s (att s (j + 1)) = NF at *
   generalize hNA : att s (j + 1) = NA at *
   have HNA : Hid (att s (j + 1) = NA) := hNA
   have HNF : Hid (fin s NA = NF) := hNF
   clear hNA hNF
   generalize hJF : fin s (att s j) = JF at *
   generalize hJA : att s j = JA at *
   clear hJF hJA
   cases E1 with
   | false =>
    have HS : Hid (parD s (lns s - 1 - (j + 1)) (j + 1 + 1) = X) := by rw [Hid, HU.out]; simp
    clear HU
    go_wp2_with fail
    refine (HBs.out _).mono ?_
    rintro r2 w2 ⟨rfl, h2⟩
    obtain ⟨hc2, hf2, hz2⟩ := qb h2
    (try simp at hz2)
    have T2 : Two w2 (w1.heap.size) (JA) (JF) := qTw
    have ⟨T2_0, T2_1, T2_z, T2_l⟩ := T2
    have N : Two (w2.alloc (.cells #[.int .i64 NA, .int .i64 NF] 128)) w2.heap.size NA NF := Two.new _ _ _ _
    go_wp2_with fail
    refine (HE1.out _).mono ?_
    rintro r3 w3 ⟨rfl, h3⟩
    obtain ⟨hc3, hf3, hz3⟩ := qb h3
    (try simp at hz3)
    have T3 : Two w3 (w1.heap.size) (JA) (JF) := qTw
    have ⟨T3_0, T3_1, T3_z, T3_l⟩ := T3
    have N3 : Two w3 (w2.heap.size) (NA) (NF) := qTw
    have ⟨N3_0, N3_1, N3_z, N3_l⟩ := N3
    have hNA := HNA.out
    have hNF := HNF.out
    clear hc2 hf2 hc3 hf3
    go_wp2
    go_round
    case rel =>
     refine ⟨j + 1, by omega, hne, ?_, ?_, HS⟩
     ·rw [hNA, hNF]
      exact Two.set1 (Two.set0 T3 _) _
     ·repeat exact qB
    case measure =>
     rw [(Two.set1 (Two.set0 T3 NA) NF).c0, c0]
     simp [intOf] <;> omega
   | true =>
    cases E2 with
    | false =>
     exact qt19
    | true =>
     have HS : Hid (parD s (lns s - 1 - (j + 1)) (j + 1 + 1) = X) := by rw [Hid, HU.out]; simp
     clear HU
     go_wp2_with fail
     refine (HBs.out _).mono ?_
     rintro r2 w2 ⟨rfl, h2⟩
     obtain ⟨hc2, hf2, hz2⟩ := qb h2
     (try simp at hz2)
     have T2 : Two w2 (w1.heap.size) (JA) (JF) := qTw
     have ⟨T2_0, T2_1, T2_z, T2_l⟩ := T2
     have N : Two (w2.alloc (.cells #[.int .i64 NA, .int .i64 NF] 128)) w2.heap.size NA NF := Two.new _ _ _ _
     go_wp2_with fail
     refine (HE1.out _).mono ?_
     rintro r3 w3 ⟨rfl, h3⟩
     obtain ⟨hc3, hf3, hz3⟩ := qb h3
     (try simp at hz3)
     have T3 : Two w3 (w1.heap.size) (JA) (JF) := qTw
     have ⟨T3_0, T3_1, T3_z, T3_l⟩ := T3
     have N3 : Two w3 (w2.heap.size) (NA) (NF) := qTw
     have ⟨N3_0, N3_1, N3_z, N3_l⟩ := N3
     go_wp2_with fail
     refine (HE2.out _).mono ?_
     rintro r4 w4 ⟨rfl, h4⟩
     obtain ⟨hc4, hf4, hz4⟩ := qb h4
     (try simp at hz4)
     have T4 : Two w4 (w1.heap.size) (JA) (JF) := qTw
     have ⟨T4_0, T4_1, T4_z, T4_l⟩ := T4
     have N4 : Two w4 (w2.heap.size) (NA) (NF) := qTw
     have ⟨N4_0, N4_1, N4_z, N4_l⟩ := N4
     have hNA := HNA.out
     have hNF := HNF.out
     clear hc2 hf2 hc3 hf3 hc4 hf4
     go_wp2
     go_round
     case rel =>
      refine ⟨j + 1, by omega, hne, ?_, ?_, HS⟩
      ·rw [hNA, hNF]
       exact Two.set1 (Two.set0 T4 _) _
      ·repeat exact qB
     case measure =>
      rw [(Two.set1 (Two.set0 T4 NA) NF).c0, c0]
      simp [intOf] <;> omega
  ·have HS : Hid (X = s.size) := by
    rw [Hid, ← hu.out, show lns s - 1 - j = 0 by omega]; rfl
   clear hu
   have hF := fin_last (s := s) (m := j) qo
   have HBs : qH 223 #[.string s, .agg #[.int .i64 (att s j), .int .i64 (fin s (att s j))], .int .i64 1] (.tuple #[.agg #[.int .i64 (0), .int .i64 (0)], .bool false]) := fun ww => tBeside_none s _ _ _ ww hs (Or.inl rfl) (fun _ => by omega) (fun h => by omega)
   clear hF
   generalize fin s (att s j) = JF at *
   generalize att s j = JA at *
   go_wp2_with fail
   refine (HBs.out _).mono ?_
   rintro r2 w2 ⟨rfl, h2⟩
   obtain ⟨hc2, hf2, hz2⟩ := qb h2
   (try simp at hz2)
   have T2 : Two w2 (w1.heap.size) (JA) (JF) := qTw
   have ⟨T2_0, T2_1, T2_z, T2_l⟩ := T2
   go_wp2_with fail
   refine (tEnd_any s _).mono ?_
   rintro e w' ⟨rfl, rfl⟩
   go_wp2
   all_goals
    first
     | (exact qV (.int .i64 s.size) (by simp [results, results253, go_sem]) (ret_int (by rw [HS.out])))
theorem sParStep_up (s : ByteArray) (p : Nat) (w : World) (hs : s.size ≤ 1000) (hp : p ≤ s.size) :
  qC 253 #[.string s, .int .i64 p, .int .i64 (-1)] w (.int .i64 (parStep s false p)) := by
 have hm := lin_lt hp
 have HL : qH 195 #[.string s, .int .i64 p] (.agg #[.int .i64 (att s (lin s p)), .int .i64 (fin s (att s (lin s p)))]) := by
  intro ww
  have := tLine_any s p p ww hs rfl hp
  rw [fin_eq hp, beg_eq hp] at this
  exact this
 have HX : Hid (parU s (lin s p) = parStep s false p) := by rw [Hid]; unfold parStep; rw [if_neg qi]
 generalize parStep s false p = X at *
 generalize lin s p = m at *
 go_enter func253, ntmps253
 go_wp2_with fail
 refine (HL.out _).mono ?_
 rintro e w1 ⟨rfl, h1⟩
 obtain ⟨hc1, hf1, hz1⟩ := qb h1
 try simp at hz1
 go_wp2
 go_loopw [8, 9] (fun _ _ wr => ∃ j : Nat, j ≤ m ∧ j < lns s ∧ Two wr w1.heap.size (att s j) (fin s (att s j)) ∧ Below w.heap.size w wr ∧ Hid (parU s j = X)) (fun _ _ wr => (intOf ((wr.cell? ⟨w1.heap.size, 0, none⟩).getD undef)).toNat)
 case atStart =>
  refine ⟨m, Nat.le_refl _, hm, Two.new _ _ _ _, ?_, HX⟩
  repeat exact qB
 case round =>
  clear HX
  obtain ⟨j, hj1, hj2, T, hB, hu⟩ := hrel
  have c0 := (T).c0
  have c1 := (T).c1
  have cz := (T).fz
  have cl := (T).lt
  have hz := hB.size
  have ha := (att_in hj2).1
  by_cases hne : 0 < j
  ·have hne2 : j - 1 < lns s := by omega
   have hnf : fin s (att s (j - 1)) + 1 = att s j := by
    obtain ⟨k, rfl⟩ : ∃ k, j = k + 1 := ⟨j - 1, by omega⟩
    rfl
   have hfg := fin_ge s (att s (j - 1))
   have HE1 : qH 185 #[.agg #[.int .i64 (att s (j - 1)), .int .i64 (fin s (att s (j - 1)))]] (.bool (emp s (att s (j - 1)))) := by
    intro ww; rw [emp_att hne2]; exact tIsEmpty_any _ _ ww
   have HE2 : qH 185 #[.agg #[.int .i64 (att s j), .int .i64 (fin s (att s j))]] (.bool (emp s (att s j))) := by
    intro ww; rw [emp_att hj2]; exact tIsEmpty_any _ _ ww
   have HU : Hid (X = if (emp s (att s (j - 1)) && !emp s (att s j)) = true then att s (j - 1) else parU s (j - 1)) := by
    rw [Hid, ← hu.out]
    obtain ⟨k, rfl⟩ : ∃ k, j = k + 1 := ⟨j - 1, by omega⟩
    rfl
   clear hu
   have HBs : qH 223 #[.string s, .agg #[.int .i64 (att s j), .int .i64 (fin s (att s j))], .int .i64 (-1)] (.tuple #[.agg #[.int .i64 (att s (j - 1)), .int .i64 (fin s (att s (j - 1)))], .bool true]) := fun ww => tBeside_up s _ _ _ j ww hs rfl hj2 rfl hne
   have hlt1 : att s (j - 1) < att s j := by omega
   clear hnf
   generalize emp s (att s (j - 1)) = E1 at *
   generalize emp s (att s j) = E2 at *
   generalize hNF : fin s (att s (j - 1)) = NF at *
   generalize hNA : att s (j - 1) = NA at *
   have HNA : Hid (att s (j - 1) = NA) := hNA
   have HNF : Hid (fin s NA = NF) := hNF
   clear hNA hNF
   generalize hJF : fin s (att s j) = JF at *
   generalize hJA : att s j = JA at *
   clear hJF hJA
   cases E1 with
   | false =>
    have HS : Hid (parU s (j - 1) = X) := by rw [Hid, HU.out]; simp
    clear HU
    go_wp2_with fail
    refine (HBs.out _).mono ?_
    rintro r2 w2 ⟨rfl, h2⟩
    obtain ⟨hc2, hf2, hz2⟩ := qb h2
    (try simp at hz2)
    have T2 : Two w2 (w1.heap.size) (JA) (JF) := qTw
    have ⟨T2_0, T2_1, T2_z, T2_l⟩ := T2
    have N : Two (w2.alloc (.cells #[.int .i64 NA, .int .i64 NF] 128)) w2.heap.size NA NF := Two.new _ _ _ _
    go_wp2_with fail
    refine (HE1.out _).mono ?_
    rintro r3 w3 ⟨rfl, h3⟩
    obtain ⟨hc3, hf3, hz3⟩ := qb h3
    (try simp at hz3)
    have T3 : Two w3 (w1.heap.size) (JA) (JF) := qTw
    have ⟨T3_0, T3_1, T3_z, T3_l⟩ := T3
    have N3 : Two w3 (w2.heap.size) (NA) (NF) := qTw
    have ⟨N3_0, N3_1, N3_z, N3_l⟩ := N3
    have hNA := HNA.out
    have hNF := HNF.out
    clear hc2 hf2 hc3 hf3
    go_wp2
    go_round
    case rel =>
     refine ⟨j - 1, by omega, hne2, ?_, ?_, HS⟩
     ·rw [hNA, hNF]
      exact Two.set1 (Two.set0 T3 _) _
     ·repeat exact qB
    case measure =>
     rw [(Two.set1 (Two.set0 T3 NA) NF).c0, c0]
     simp [intOf] <;> omega
   | true =>
    cases E2 with
    | false =>
     exact qt19
    | true =>
     have HS : Hid (parU s (j - 1) = X) := by rw [Hid, HU.out]; simp
     clear HU
     go_wp2_with fail
     refine (HBs.out _).mono ?_
     rintro r2 w2 ⟨rfl, h2⟩
     obtain ⟨hc2, hf2, hz2⟩ := qb h2
     (try simp at hz2)
     have T2 : Two w2 (w1.heap.size) (JA) (JF) := qTw
     have ⟨T2_0, T2_1, T2_z, T2_l⟩ := T2
     have N : Two (w2.alloc (.cells #[.int .i64 NA, .int .i64 NF] 128)) w2.heap.size NA NF := Two.new _ _ _ _
     go_wp2_with fail
     refine (HE1.out _).mono ?_
     rintro r3 w3 ⟨rfl, h3⟩
     obtain ⟨hc3, hf3, hz3⟩ := qb h3
     (try simp at hz3)
     have T3 : Two w3 (w1.heap.size) (JA) (JF) := qTw
     have ⟨T3_0, T3_1, T3_z, T3_l⟩ := T3
     have N3 : Two w3 (w2.heap.size) (NA) (NF) := qTw
     have ⟨N3_0, N3_1, N3_z, N3_l⟩ := N3
     go_wp2_with fail
     refine (HE2.out _).mono ?_
     rintro r4 w4 ⟨rfl, h4⟩
     obtain ⟨hc4, hf4, hz4⟩ := qb h4
     (try simp at hz4)
     have T4 : Two w4 (w1.heap.size) (JA) (JF) := qTw
     have ⟨T4_0, T4_1, T4_z, T4_l⟩ := T4
     have N4 : Two w4 (w2.heap.size) (NA) (NF) := qTw
     have ⟨N4_0, N4_1, N4_z, N4_l⟩ := N4
     have hNA := HNA.out
     have hNF := HNF.out
     clear hc2 hf2 hc3 hf3 hc4 hf4
     go_wp2
     go_round
     case rel =>
      refine ⟨j - 1, by omega, hne2, ?_, ?_, HS⟩
      ·rw [hNA, hNF]
       exact Two.set1 (Two.set0 T4 _) _
      ·repeat exact qB
     case measure =>
      rw [(Two.set1 (Two.set0 T4 NA) NF).c0, c0]
      simp [intOf] <;> omega
  ·have HS : Hid (X = 0) := by
    rw [Hid, ← hu.out, show j = 0 by omega]; rfl
   clear hu
   have hF : att s j = 0 := by rw [show j = 0 by omega]; rfl
   have HBs : qH 223 #[.string s, .agg #[.int .i64 (att s j), .int .i64 (fin s (att s j))], .int .i64 (-1)] (.tuple #[.agg #[.int .i64 (0), .int .i64 (0)], .bool false]) := fun ww => tBeside_none s _ _ _ ww hs (Or.inr rfl) (fun h => by omega) (fun _ => by omega)
   clear hF
   generalize fin s (att s j) = JF at *
   generalize att s j = JA at *
   go_wp2_with fail
   refine (HBs.out _).mono ?_
   rintro r2 w2 ⟨rfl, h2⟩
   obtain ⟨hc2, hf2, hz2⟩ := qb h2
   (try simp at hz2)
   have T2 : Two w2 (w1.heap.size) (JA) (JF) := qTw
   have ⟨T2_0, T2_1, T2_z, T2_l⟩ := T2
   go_wp2
   all_goals
    first
     | (exact qV (.int .i64 0) (by simp [results, results253, go_sem]) (ret_int (by rw [HS.out]; rfl)))
theorem qt20 {P : Prop} (h : P := by
  go_wp2_with fail
  refine (HL.out _).mono ?_
  rintro r2 w2 ⟨rfl, h2⟩
  obtain ⟨hc2, hf2, hz2⟩ := qb h2
  (try simp at hz2)
  have RB2 : Two w2 (w.heap.size + 1) (0) (0) := qTw
  have ⟨RB2_0, RB2_1, RB2_z, RB2_l⟩ := RB2
  go_wp2_with fail
  refine (HT.out _).mono ?_
  rintro r3 w3 ⟨rfl, h3⟩
  obtain ⟨hc3, hf3, hz3⟩ := qb h3
  (try simp at hz3)
  have RB3 : Two w3 (w.heap.size + 1) (0) (0) := qTw
  have ⟨RB3_0, RB3_1, RB3_z, RB3_l⟩ := RB3
  have F3 := (F.below h2).below h3
  have g0 := F3.c0; have g1 := F3.c1; have g2 := F3.c2; have g3 := F3.c3; have g4 := F3.c4
  clear hc2 hf2 hc3 hf3
  go_wp2_with fail
  refine (HU.out _).mono ?_
  rintro r4 w4 ⟨rfl, h4⟩
  obtain ⟨hc4, hf4, hz4⟩ := qb h4
  (try simp at hz4)
  have RB4 : Two w4 (w.heap.size + 1) (0) (0) := qTw
  have ⟨RB4_0, RB4_1, RB4_z, RB4_l⟩ := RB4
  go_wp2
  all_goals
   first
    | (exact qV (.tuple #[.agg #[.int .i64 (wayX (R)), .int .i64 (wayK (R))], .bool (wayZ (R))]) (by simp [results, results211, go_sem, RB4_0, RB4_1, RB4_z, RB4_l]) rfl)
 ) : P := h
theorem qt37 {P : Prop} (h : P := by
  have ⟨F2_0, F2_1, F2_2, F2_3, F2_4, F2_z, F2_l⟩ := F2
  have RB2 : Two w2 (w.heap.size + 1) (0) (0) := qTw
  have ⟨RB2_0, RB2_1, RB2_z, RB2_l⟩ := RB2
  go_wp2
  go_round
  case rel =>
   refine ⟨k + 1, by omega, by rw [hA], by go_num, F2, RB2, ?_⟩
   repeat exact qB
  case measure => simp [intOf] <;> omega
 ) : P := h
theorem qt21 {P : Prop} (h : P := by
  go_wp2_with fail
  refine (HS.out _).mono ?_
  rintro r2 w2 ⟨rfl, h2⟩
  obtain ⟨hc2, hf2, hz2⟩ := qb h2
  (try simp at hz2)
  have F2 : Five w2 (w.heap.size) s p n v c := qF
  exact qt37
 ) : P := h
theorem sToPar_any (s : ByteArray) (p n : Nat) (v c down : Bool) (d : Int) (w : World) (hs : s.size ≤ 1000) (hp : p ≤ s.size) (hn : n ≤ 99) (hd : d = if down = true then 1 else -1) :
  qC 211 #[.agg #[.string s, .int .i64 (p), .int .i64 (n), .bool v, .bool c], .int .i64 d] w (.tuple #[.agg #[.int .i64 (wayX (((parQ s p (max n 1) down v : Int), 0, (parQ s p (max n 1) down v : Int) == (p : Int)))), .int .i64 (wayK (((parQ s p (max n 1) down v : Int), 0, (parQ s p (max n 1) down v : Int) == (p : Int))))], .bool (wayZ (((parQ s p (max n 1) down v : Int), 0, (parQ s p (max n 1) down v : Int) == (p : Int))))]) := by
 have HP : Hid (∀ (q : Nat), q ≤ s.size → ∀ ww, qC 253 #[.string s, .int .i64 q, .int .i64 d] ww (.int .i64 (parStep s down q))) := by
  intro q hq ww
  cases down with
  | true => rw [hd]; exact sParStep_down s q ww hs hq
  | false => rw [hd]; exact sParStep_up s q ww hs hq
 clear hd
 have HN : qH 241 #[.agg #[.string s, .int .i64 (p), .int .i64 (n), .bool v, .bool c]] (.int .i64 ((max n 1 : Nat) : Int)) := by
  exact qt26
 have hN2 : max n 1 ≤ 99 := by omega
 generalize max n 1 = N at *
 have HU : qH 240 #[.agg #[.string s, .int .i64 (p), .int .i64 (n), .bool v, .bool c], .int .i64 (parQ s p N down v : Nat), .int .i64 0] (.tuple #[.agg #[.int .i64 (wayX (((parQ s p N down v : Int), 0, (parQ s p N down v : Int) == (p : Int)))), .int .i64 (wayK (((parQ s p N down v : Int), 0, (parQ s p N down v : Int) == (p : Int))))], .bool (wayZ (((parQ s p N down v : Int), 0, (parQ s p N down v : Int) == (p : Int))))]) := fun ww => sUnless_any s p n _ 0 v c ww
 generalize (((parQ s p N down v : Nat) : Int), (0 : Int), (((parQ s p N down v : Nat) : Int) == (p : Int))) = R at *
 go_enter func211, ntmps211
 have F : Five ((w.alloc (.cells #[.string s, .int .i64 (p), .int .i64 (n), .bool v, .bool c] 206)).alloc (.cells #[.int .i64 0, .int .i64 0] 202)) w.heap.size s p n v c := Five.alloc (Five.new _ _ _ _ _ _ _) _
 have RB : Two ((w.alloc (.cells #[.string s, .int .i64 (p), .int .i64 (n), .bool v, .bool c] 206)).alloc (.cells #[.int .i64 0, .int .i64 0] 202)) (w.heap.size + 1) 0 0 := qN
 go_wp2_with fail
 refine (HN.out _).mono ?_
 rintro r1 w1 ⟨rfl, h1⟩
 obtain ⟨hc1, hf1, hz1⟩ := qb h1
 (try simp at hz1)
 have F1 : Five w1 (w.heap.size) s p n v c := qF
 have ⟨F1_0, F1_1, F1_2, F1_3, F1_4, F1_z, F1_l⟩ := F1
 have RB1 : Two w1 (w.heap.size + 1) (0) (0) := qTw
 have ⟨RB1_0, RB1_1, RB1_z, RB1_l⟩ := RB1
 go_wp2
 go_loopw [6, 11] (fun q i wr => ∃ k : Nat, k ≤ N ∧ q = .int .i64 (itr (parStep s down) k p : Nat) ∧ i = .int .i64 k ∧ Five wr w.heap.size s p n v c ∧ Two wr (w.heap.size + 1) 0 0 ∧ Below w.heap.size w wr) (fun _ i _ => N - (intOf i).toNat)
 case atStart =>
  refine ⟨0, by omega, rfl, rfl, F1, RB1, ?_⟩
  repeat exact qB
 case round =>
  clear F RB h1 hc1 hf1 F1_0 F1_1 F1_2 F1_3 F1_4 F1_z F1_l RB1_0 RB1_1 RB1_z RB1_l
  obtain ⟨k, hk, rfl, rfl, F, RB, hB⟩ := hrel
  have hq := itr_p_le (down := down) hp k
  have ⟨f0, f1, f2, f3, f4, fz, fl⟩ := F
  have r0 := (RB).c0
  have r1 := (RB).c1
  have rz := (RB).fz
  have rl := (RB).lt
  have hzz := hB.size
  by_cases hlt : k < N
  ·have HS : qH 253 #[.string s, .int .i64 (itr (parStep s down) k p : Nat), .int .i64 d] (.int .i64 (itr (parStep s down) (k + 1) p : Nat)) := fun ww => HP.out _ hq ww
   generalize hA : itr (parStep s down) (k + 1) p = A at *
   exact qt21
  ·have ek : k = N := by omega
   subst ek
   cases v with
   | true =>
    have HV : parQ s p k down true = itr (parStep s down) k p := by unfold parQ; rw [if_pos rfl]
    rw [HV] at HU
    generalize itr (parStep s down) k p = A at *
    go_wp2_with fail
    refine (HU.out _).mono ?_
    rintro r2 w2 ⟨rfl, h2⟩
    obtain ⟨hc2, hf2, hz2⟩ := qb h2
    (try simp at hz2)
    have RB2 : Two w2 (w.heap.size + 1) (0) (0) := qTw
    have ⟨RB2_0, RB2_1, RB2_z, RB2_l⟩ := RB2
    go_wp2
    all_goals
     first
      | (exact qV (.tuple #[.agg #[.int .i64 (wayX (R)), .int .i64 (wayK (R))], .bool (wayZ (R))]) (by simp [results, results211, go_sem, RB2_0, RB2_1, RB2_z, RB2_l]) rfl)
   | false =>
    have HV : ((parQ s p k down false : Nat) : Int) = if ((lst s (itr (parStep s down) k p) : Nat) : Int) < ((itr (parStep s down) k p : Nat) : Int) then ((lst s (itr (parStep s down) k p) : Nat) : Int) else ((itr (parStep s down) k p : Nat) : Int) := by
     unfold parQ; rw [if_neg qi]; unfold clm; split <;> split <;> first | rfl | omega
    rw [HV] at HU
    clear HV
    have hfl := fin_le hq
    have HL : qH 195 #[.string s, .int .i64 (itr (parStep s down) k p : Nat)] (.agg #[.int .i64 (beg s (itr (parStep s down) k p)), .int .i64 (fin s (itr (parStep s down) k p))]) := fun ww => tLine_any s _ _ ww hs rfl hq
    have HT : qH 202 #[.agg #[.int .i64 (beg s (itr (parStep s down) k p)), .int .i64 (fin s (itr (parStep s down) k p))]] (.int .i64 (lst s (itr (parStep s down) k p) : Nat)) := by
     intro ww; rw [lst_max]; exact tLast_any _ _ ww qo
    generalize lst s (itr (parStep s down) k p) = L at *
    generalize beg s (itr (parStep s down) k p) = B at *
    generalize fin s (itr (parStep s down) k p) = E at *
    generalize itr (parStep s down) k p = A at *
    by_cases hLA : (L : Int) < (A : Int)
    ·rw [if_pos hLA] at HU
     exact qt20
    ·rw [if_neg hLA] at HU
     have hLA' : (A : Int) ≤ (L : Int) := by omega
     clear hLA
     exact qt20
