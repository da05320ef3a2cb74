/- Joined of the texts WaysD2. -/
import Derived.Test.YtlendfhehhacpaaGreatP13
set_option linter.unusedVariables false
set_option linter.unusedSimpArgs false
set_option maxRecDepth 100000
set_option maxHeartbeats 8000000
namespace Go.Proofs.YtlendfhehhacpaaGreat
open Go.RowKit
theorem sToLine_j (s : ByteArray) (p n : Nat) (v c given : Bool) (w : World) (hs : s.size ≤ 1000) (hp : p ≤ s.size) (hn : n ≤ 99) :
    Calls Tryz.prog 206 #[.agg #[.string s, .int .i64 (p), .int .i64 (n), .bool v, .bool c], .int .u8 106] w fun e w' => e = .returned (.tuple #[.agg #[.int .i64 (wayX (Nib.lineWay s p 106 (max n 1) given)), .int .i64 (wayK (Nib.lineWay s p 106 (max n 1) given))], .bool (wayZ (Nib.lineWay s p 106 (max n 1) given))]) ∧ Below w.heap.size w w' := by
  have hm := Nib.lin_lt hp
  refine sToLine_gen s p n v c 106 1 w _ (min (Nib.lin s p + max n 1) (Nib.lns s - 1)) (min (max n 1) (Nib.lns s - 1 - Nib.lin s p)) (max n 1) hs hp hn rfl (by omega) (Or.inl ⟨rfl, rfl⟩) ?_ ?_
  · intro ww
    rw [Nib.fin_eq hp, Nib.beg_eq hp]
    exact tFurther_down s _ _ _ _ (Nib.lin s p) (max n 1) ww hs hm rfl rfl rfl rfl (by omega)
  · rw [Hid]
    unfold Nib.lineWay Nib.lineTo
    rw [if_pos rfl]
    by_cases h : (Nib.lns s : Int) ≤ (Nib.lin s p : Int) + (max n 1 : Nat)
    · rw [if_pos (Or.inr h), if_pos (by omega)]
    · have hx : ¬ ((min (max n 1) (Nib.lns s - 1 - Nib.lin s p) : Nat) : Int) < ((max n 1 : Nat) : Int) := by omega
      rw [if_neg (by omega)]
      simp only [hx, if_false]
      have e1 : ((Nib.lin s p : Int) + (max n 1 : Nat)).toNat = Nib.lin s p + max n 1 := by omega
      have e2 : min (Nib.lin s p + max n 1) (Nib.lns s - 1) = Nib.lin s p + max n 1 := by omega
      have hb := Nib.beg_le s p
      rw [e1, e2, Nib.lst_max, Nib.beg_att (by omega)]
      generalize Nib.fin s (Nib.att s (Nib.lin s p + max n 1)) = F
      generalize Nib.att s (Nib.lin s p + max n 1) = A
      generalize Nib.beg s p = B at *
      have : (if max (A : Int) ((F : Int) - 1) < (A : Int) + p - B then max (A : Int) ((F : Int) - 1) else (A : Int) + p - B) = min ((A : Int) + ((p : Int) - B)) (max (A : Int) ((F : Int) - 1)) := by split <;> omega
      rw [this]
theorem sToLine_k (s : ByteArray) (p n : Nat) (v c given : Bool) (w : World) (hs : s.size ≤ 1000) (hp : p ≤ s.size) (hn : n ≤ 99) :
    Calls Tryz.prog 206 #[.agg #[.string s, .int .i64 (p), .int .i64 (n), .bool v, .bool c], .int .u8 107] w fun e w' => e = .returned (.tuple #[.agg #[.int .i64 (wayX (Nib.lineWay s p 107 (max n 1) given)), .int .i64 (wayK (Nib.lineWay s p 107 (max n 1) given))], .bool (wayZ (Nib.lineWay s p 107 (max n 1) given))]) ∧ Below w.heap.size w w' := by
  have hm := Nib.lin_lt hp
  refine sToLine_gen s p n v c 107 (-1) w _ (Nib.lin s p - max n 1) (min (max n 1) (Nib.lin s p)) (max n 1) hs hp hn rfl (by omega) (Or.inr ⟨rfl, rfl⟩) ?_ ?_
  · intro ww
    rw [Nib.fin_eq hp, Nib.beg_eq hp]
    exact tFurther_up s _ _ _ _ (Nib.lin s p) (max n 1) ww hs hm rfl rfl rfl rfl (by omega)
  · rw [Hid]
    unfold Nib.lineWay Nib.lineTo
    rw [if_neg (by decide), if_pos rfl]
    by_cases h : (Nib.lin s p : Int) - (max n 1 : Nat) < 0
    · rw [if_pos (Or.inl h), if_pos (by omega)]
    · have hx : ¬ ((min (max n 1) (Nib.lin s p) : Nat) : Int) < ((max n 1 : Nat) : Int) := by omega
      rw [if_neg (by omega)]
      simp only [hx, if_false]
      have e1 : ((Nib.lin s p : Int) - (max n 1 : Nat)).toNat = Nib.lin s p - max n 1 := by omega
      have hb := Nib.beg_le s p
      rw [e1, Nib.lst_max, Nib.beg_att (by omega)]
      generalize Nib.fin s (Nib.att s (Nib.lin s p - max n 1)) = F
      generalize Nib.att s (Nib.lin s p - max n 1) = A
      generalize Nib.beg s p = B at *
      have : (if max (A : Int) ((F : Int) - 1) < (A : Int) + p - B then max (A : Int) ((F : Int) - 1) else (A : Int) + p - B) = min ((A : Int) + ((p : Int) - B)) (max (A : Int) ((F : Int) - 1)) := by split <;> omega
      rw [this]
theorem sToNumber_any (s : ByteArray) (p n : Nat) (v c : Bool) (key : Int) (w : World) (hs : s.size ≤ 1000) (hp : p ≤ s.size) (hn : n ≤ 99) (hk : key = 71 ∨ key = 103) :
    Calls Tryz.prog 207 #[.agg #[.string s, .int .i64 (p), .int .i64 (n), .bool v, .bool c], .int .u8 key] w fun e w' => e = .returned (.tuple #[.agg #[.int .i64 (wayX (Nib.lineWay s p key (max n 1) (decide (0 < n)))), .int .i64 (wayK (Nib.lineWay s p key (max n 1) (decide (0 < n))))], .bool (wayZ (Nib.lineWay s p key (max n 1) (decide (0 < n))))]) ∧ Below w.heap.size w w' := by
  have HR : Hid (Nib.lineWay s p key (max n 1) (decide (0 < n)) = ((Nib.frs s (Nib.att s (if 0 < n ∨ key = 103 then min (max n 1 - 1) (Nib.lns s - 1) else Nib.lns s - 1)) : Int), 2, false)) := by
    rw [Hid]
    have hl := Nib.lns_pos s
    unfold Nib.lineWay Nib.lineNo
    rw [if_neg (by omega), if_neg (by omega)]
    have e : (if (Nib.lns s : Int) ≤ (if decide (0 < n) = true then ((max n 1 : Nat) : Int) - 1 else if key = 71 then (Nib.lns s : Int) - 1 else 0) then (Nib.lns s : Int) - 1 else (if decide (0 < n) = true then ((max n 1 : Nat) : Int) - 1 else if key = 71 then (Nib.lns s : Int) - 1 else 0)).toNat = if 0 < n ∨ key = 103 then min (max n 1 - 1) (Nib.lns s - 1) else Nib.lns s - 1 := by
      by_cases h0 : 0 < n
      · simp only [h0, decide_true, if_true, true_or]
        split <;> omega
      · rcases hk with rfl | rfl
        · simp only [h0, decide_false, Bool.false_eq_true, if_false, if_true, false_or, show ¬ (71 : Int) = 103 by decide]
          split <;> omega
        · simp only [h0, decide_false, Bool.false_eq_true, if_false, if_true, or_true, show ¬ (103 : Int) = 71 by decide]
          split <;> omega
    rw [e]
  rw [HR.out, wayX_f, wayK_f, wayZ_f]
  clear HR
  have hl := Nib.lns_pos s
  have hlast := (Nib.att_in (s := s) (m := Nib.lns s - 1) (by omega)).1
  have HLast : Hid (∀ ww, Calls Tryz.prog 195 #[.string s, .int .i64 s.size] ww fun e w' => e = .returned (.agg #[.int .i64 (Nib.att s (Nib.lns s - 1)), .int .i64 (Nib.fin s (Nib.att s (Nib.lns s - 1)))]) ∧ Below ww.heap.size ww w') := by
    intro ww
    have := tLine_any s s.size s.size ww hs rfl (Nat.le_refl _)
    rw [Nib.fin_eq (Nat.le_refl _), Nib.beg_eq (Nat.le_refl _), show Nib.lin s s.size = Nib.lns s - 1 by unfold Nib.lns; omega] at this
    exact this
  have HLine0 : Hid (∀ ww, Calls Tryz.prog 195 #[.string s, .int .i64 0] ww fun e w' => e = .returned (.agg #[.int .i64 (Nib.att s 0), .int .i64 (Nib.fin s (Nib.att s 0))]) ∧ Below ww.heap.size ww w') := by
    intro ww
    exact tLine_any s 0 0 ww hs rfl (Nat.zero_le _)
  have HN : Hid (∀ ww, Calls Tryz.prog 241 #[.agg #[.string s, .int .i64 (p), .int .i64 (n), .bool v, .bool c]] ww fun e w' => e = .returned (.int .i64 ((max n 1 : Nat) : Int)) ∧ Below ww.heap.size ww w') := by
    intro ww
    have := sNumber_any s p n v c ww
    rw [show max (n : Int) 1 = ((max n 1 : Nat) : Int) by omega] at this
    exact this
  have HD : Hid (∀ ww, Calls Tryz.prog 180 #[.string s, .agg #[.int .i64 (Nib.att s 0), .int .i64 (Nib.fin s (Nib.att s 0))], .int .i64 (((max n 1 : Nat) : Int) - 1), .int .i64 1] ww fun e w' => e = .returned (.tuple #[.agg #[.int .i64 (Nib.att s (min (max n 1 - 1) (Nib.lns s - 1))), .int .i64 (Nib.fin s (Nib.att s (min (max n 1 - 1) (Nib.lns s - 1))))], .int .i64 ((min (max n 1 - 1) (Nib.lns s - 1) : Nat) : Int)]) ∧ Below ww.heap.size ww w') := by
    intro ww
    have := tFurther_down s _ _ (((max n 1 : Nat) : Int) - 1) 1 0 (max n 1 - 1) ww hs (by omega) rfl rfl (by omega) rfl (by omega)
    rw [Nat.zero_add, Nat.sub_zero] at this
    exact this
  have HEnd : Hid (∀ ww, Calls Tryz.prog 246 #[.string s] ww fun e w' => e = .returned (.int .i64 s.size) ∧ Below ww.heap.size ww w') := by
    intro ww
    refine (tEnd_any s ww).mono ?_
    rintro e w' ⟨rfl, rfl⟩
    exact ⟨rfl, Below.refl _ _⟩
  have hN2 : max n 1 ≤ 99 := by omega
  have hN1 : 1 ≤ max n 1 := by omega
  have hm2 : min (max n 1 - 1) (Nib.lns s - 1) < Nib.lns s := by omega
  have HF : ∀ m, m < Nib.lns s → Hid (∀ ww, Calls Tryz.prog 243 #[.string s, .agg #[.int .i64 (Nib.att s m), .int .i64 (Nib.fin s (Nib.att s m))]] ww fun e w' => e = .returned (.int .i64 (Nib.frs s (Nib.att s m))) ∧ Below ww.heap.size ww w') := by
    intro m hm ww
    exact tFirst_any s _ _ (Nib.att s m) ww hs (Nib.att_in hm).1 (by rw [Nib.beg_att hm]) rfl
  by_cases hc : 0 < n ∨ key = 103
  · have HF := HF _ hm2
    rw [if_pos hc]
    generalize min (max n 1 - 1) (Nib.lns s - 1) = M at *
    generalize max n 1 = N at *
    generalize Nib.frs s (Nib.att s M) = X at *
    generalize Nib.fin s (Nib.att s M) = MF at *
    generalize Nib.att s M = MA at *
    generalize Nib.fin s (Nib.att s 0) = ZF at *
    generalize Nib.att s 0 = ZA at *
    generalize Nib.fin s (Nib.att s (Nib.lns s - 1)) = LF at *
    generalize Nib.att s (Nib.lns s - 1) = LA at *
    have hw : IntKind.i64.wrap ((N : Int) - 1) = (N : Int) - 1 := by rw [IntKind.wrap_i64]; omega
    by_cases h0 : 0 < n
    · have h0' : (0 : Int) < (n : Int) := by omega
      clear hc hk
      go_enter Tryz.func207, Tryz.ntmps207
      have s0 : ((w.alloc (.cells #[.string s, .int .i64 (p), .int .i64 (n), .bool v, .bool c] 206)).alloc (.cells #[.int .i64 0, .int .i64 0] 202)).cell? ⟨w.heap.size, 0, none⟩ = some (.string s) := by simp
      have s1 : ((w.alloc (.cells #[.string s, .int .i64 (p), .int .i64 (n), .bool v, .bool c] 206)).alloc (.cells #[.int .i64 0, .int .i64 0] 202)).cell? ⟨w.heap.size, 1, none⟩ = some (.int .i64 p) := by simp
      have s2 : ((w.alloc (.cells #[.string s, .int .i64 (p), .int .i64 (n), .bool v, .bool c] 206)).alloc (.cells #[.int .i64 0, .int .i64 0] 202)).cell? ⟨w.heap.size, 2, none⟩ = some (.int .i64 n) := by simp
      have s3 : ((w.alloc (.cells #[.string s, .int .i64 (p), .int .i64 (n), .bool v, .bool c] 206)).alloc (.cells #[.int .i64 0, .int .i64 0] 202)).cell? ⟨w.heap.size, 3, none⟩ = some (.bool v) := by simp
      have s4 : ((w.alloc (.cells #[.string s, .int .i64 (p), .int .i64 (n), .bool v, .bool c] 206)).alloc (.cells #[.int .i64 0, .int .i64 0] 202)).cell? ⟨w.heap.size, 4, none⟩ = some (.bool c) := by simp
      have RB : Two (((w.alloc (.cells #[.string s, .int .i64 (p), .int .i64 (n), .bool v, .bool c] 206)).alloc (.cells #[.int .i64 0, .int .i64 0] 202))) (w.heap.size + 1) 0 0 := by have := Two.new (w.alloc (.cells #[.string s, .int .i64 (p), .int .i64 (n), .bool v, .bool c] 206)) 0 0 202; simpa using this
      go_wp2_with fail
      go_region_held3 (fun ww => ww.cell? ⟨w.heap.size, 0, none⟩ = some (.string s) ∧ ww.cell? ⟨w.heap.size, 1, none⟩ = some (.int .i64 p) ∧ ww.cell? ⟨w.heap.size, 2, none⟩ = some (.int .i64 n) ∧ ww.cell? ⟨w.heap.size, 3, none⟩ = some (.bool v) ∧ ww.cell? ⟨w.heap.size, 4, none⟩ = some (.bool c)) ((refine ⟨?_, ?_, ?_, ?_, ?_⟩ <;> (first | (go_simp; done) | (repeat (first | assumption | (with_reducible refine memLater ((Below.refl _ _).alloc (Nat.le_refl _) _) ?_) | (with_reducible refine memLater ((Below.refl _ _).drew) ?_) | (with_reducible refine memLater h1 ?_) | (with_reducible refine memLater h2 ?_) | (with_reducible refine (memSet (by omega)).trans ?_)))))) (first | (go_at_call 246; refine (HEnd.out _).mono ?_; rintro r1 w1 ⟨rfl, h1⟩; obtain ⟨hc1, hf1⟩ := bcell h1; have hz1 := h1.size; (try simp at hz1); (try have hl1_0 : w.heap.size < w1.heap.size := (by omega)); (try have hk1_0 : w.heap.size < w1.heap.size + 1 := (by omega)); (try have hl1_1 : w.heap.size + 1 + 1 < w1.heap.size := (by omega)); (try have hk1_1 : w.heap.size + 1 + 1 < w1.heap.size + 1 := (by omega)); (try have hl1_2 : w1.heap.size < w1.heap.size := (by omega)); (try have hk1_2 : w1.heap.size < w1.heap.size + 1 := (by omega)); have RB1 : Two w1 (w.heap.size + 1) (0) (0) := (by repeat (with_reducible first | exact RB | refine t_o ?_ _ | refine Two.alloc ?_ _ | refine Two.drewN ?_ _ | refine Two.drew ?_ | refine Two.below ?_ h1)); have RB1_0 := RB1.c0; have RB1_1 := RB1.c1; have RB1_z := RB1.fz; have RB1_l := RB1.lt) | (go_at_call 195; refine (HLast.out _).mono ?_; rintro r2 w2 ⟨rfl, h2⟩; obtain ⟨hc2, hf2⟩ := bcell h2; have hz2 := h2.size; (try simp at hz2); (try have hl2_0 : w.heap.size < w2.heap.size := (by omega)); (try have hk2_0 : w.heap.size < w2.heap.size + 1 := (by omega)); (try have hl2_1 : w.heap.size + 1 + 1 < w2.heap.size := (by omega)); (try have hk2_1 : w.heap.size + 1 + 1 < w2.heap.size + 1 := (by omega)); (try have hl2_2 : w1.heap.size < w2.heap.size := (by omega)); (try have hk2_2 : w1.heap.size < w2.heap.size + 1 := (by omega)); have RB2 : Two w2 (w.heap.size + 1) (0) (0) := (by repeat (with_reducible first | exact RB | refine t_o ?_ _ | refine Two.alloc ?_ _ | refine Two.drewN ?_ _ | refine Two.drew ?_ | refine Two.below ?_ h1 | refine Two.below ?_ h2)); have RB2_0 := RB2.c0; have RB2_1 := RB2.c1; have RB2_z := RB2.fz; have RB2_l := RB2.lt))
      · have T : Two (w2.alloc (.cells #[.int .i64 LA, .int .i64 LF] 128)) (w2.heap.size) LA LF := Two.new _ _ _ _
        go_wp2_with fail
        go_region_held3 (fun ww => ww.cell? ⟨w.heap.size, 0, none⟩ = some (.string s) ∧ ww.cell? ⟨w.heap.size, 1, none⟩ = some (.int .i64 p) ∧ ww.cell? ⟨w.heap.size, 2, none⟩ = some (.int .i64 n) ∧ ww.cell? ⟨w.heap.size, 3, none⟩ = some (.bool v) ∧ ww.cell? ⟨w.heap.size, 4, none⟩ = some (.bool c)) ((refine ⟨?_, ?_, ?_, ?_, ?_⟩ <;> (first | (go_simp; done) | (repeat (first | assumption | (with_reducible refine memLater ((Below.refl _ _).alloc (Nat.le_refl _) _) ?_) | (with_reducible refine memLater ((Below.refl _ _).drew) ?_) | (with_reducible refine memLater h3 ?_) | (with_reducible refine memLater h4 ?_) | (with_reducible refine memLater h5 ?_) | (with_reducible refine memLater h2 ?_) | (with_reducible refine memLater h1 ?_) | (with_reducible refine (memSet (by omega)).trans ?_)))))) (first | (go_at_call 195; refine (HLine0.out _).mono ?_; rintro r3 w3 ⟨rfl, h3⟩; obtain ⟨hc3, hf3⟩ := bcell h3; have hz3 := h3.size; (try simp at hz3); (try have hl3_0 : w.heap.size < w3.heap.size := (by omega)); (try have hk3_0 : w.heap.size < w3.heap.size + 1 := (by omega)); have T3 : Two w3 (w2.heap.size) (LA) (LF) := (by repeat (with_reducible first | exact T | refine t_o ?_ _ | refine Two.alloc ?_ _ | refine Two.drewN ?_ _ | refine Two.drew ?_ | refine Two.below ?_ h3 | refine Two.below ?_ h2 | refine Two.below ?_ h1)); have T3_0 := T3.c0; have T3_1 := T3.c1; have T3_z := T3.fz; have T3_l := T3.lt; have RB3 : Two w3 (w.heap.size + 1) (0) (0) := (by repeat (with_reducible first | exact RB | refine t_o ?_ _ | refine Two.alloc ?_ _ | refine Two.drewN ?_ _ | refine Two.drew ?_ | refine Two.below ?_ h3 | refine Two.below ?_ h2 | refine Two.below ?_ h1)); have RB3_0 := RB3.c0; have RB3_1 := RB3.c1; have RB3_z := RB3.fz; have RB3_l := RB3.lt) | (go_at_call 241; refine (HN.out _).mono ?_; rintro r4 w4 ⟨rfl, h4⟩; obtain ⟨hc4, hf4⟩ := bcell h4; have hz4 := h4.size; (try simp at hz4); (try have hl4_0 : w.heap.size < w4.heap.size := (by omega)); (try have hk4_0 : w.heap.size < w4.heap.size + 1 := (by omega)); have T4 : Two w4 (w2.heap.size) (LA) (LF) := (by repeat (with_reducible first | exact T | refine t_o ?_ _ | refine Two.alloc ?_ _ | refine Two.drewN ?_ _ | refine Two.drew ?_ | refine Two.below ?_ h3 | refine Two.below ?_ h4 | refine Two.below ?_ h2 | refine Two.below ?_ h1)); have T4_0 := T4.c0; have T4_1 := T4.c1; have T4_z := T4.fz; have T4_l := T4.lt; have RB4 : Two w4 (w.heap.size + 1) (0) (0) := (by repeat (with_reducible first | exact RB | refine t_o ?_ _ | refine Two.alloc ?_ _ | refine Two.drewN ?_ _ | refine Two.drew ?_ | refine Two.below ?_ h3 | refine Two.below ?_ h4 | refine Two.below ?_ h2 | refine Two.below ?_ h1)); have RB4_0 := RB4.c0; have RB4_1 := RB4.c1; have RB4_z := RB4.fz; have RB4_l := RB4.lt) | (go_at_call 180; refine (HD.out _).mono ?_; rintro r5 w5 ⟨rfl, h5⟩; obtain ⟨hc5, hf5⟩ := bcell h5; have hz5 := h5.size; (try simp at hz5); (try have hl5_0 : w.heap.size < w5.heap.size := (by omega)); (try have hk5_0 : w.heap.size < w5.heap.size + 1 := (by omega)); have T5 : Two w5 (w2.heap.size) (LA) (LF) := (by repeat (with_reducible first | exact T | refine t_o ?_ _ | refine Two.alloc ?_ _ | refine Two.drewN ?_ _ | refine Two.drew ?_ | refine Two.below ?_ h3 | refine Two.below ?_ h4 | refine Two.below ?_ h5 | refine Two.below ?_ h2 | refine Two.below ?_ h1)); have T5_0 := T5.c0; have T5_1 := T5.c1; have T5_z := T5.fz; have T5_l := T5.lt; have RB5 : Two w5 (w.heap.size + 1) (0) (0) := (by repeat (with_reducible first | exact RB | refine t_o ?_ _ | refine Two.alloc ?_ _ | refine Two.drewN ?_ _ | refine Two.drew ?_ | refine Two.below ?_ h3 | refine Two.below ?_ h4 | refine Two.below ?_ h5 | refine Two.below ?_ h2 | refine Two.below ?_ h1)); have RB5_0 := RB5.c0; have RB5_1 := RB5.c1; have RB5_z := RB5.fz; have RB5_l := RB5.lt))
        clear hc1 hf1 hc2 hf2 hc3 hf3 hc4 hf4 hc5 hf5
        go_wp2_with fail
        refine (HF.out _).mono ?_
        rintro r6 w6 ⟨rfl, h6⟩
        obtain ⟨hc6, hf6⟩ := bcell h6
        have hz6 := h6.size
        (try simp at hz6)
        have RB6 : Two w6 (w.heap.size + 1) (0) (0) := (by repeat (with_reducible first | exact RB | refine t_o ?_ _ | refine Two.alloc ?_ _ | refine Two.drewN ?_ _ | refine Two.drew ?_ | refine Two.below ?_ h6 | refine Two.below ?_ h5 | refine Two.below ?_ h4 | refine Two.below ?_ h3 | refine Two.below ?_ h2 | refine Two.below ?_ h1))
        have RB6_0 := RB6.c0
        have RB6_1 := RB6.c1
        have RB6_z := RB6.fz
        have RB6_l := RB6.lt
        go_wp2
        all_goals
          first
            | (refine bodyPost_ret (v := .tuple #[.agg #[.int .i64 X, .int .i64 2], .bool true]) (by simp [results, Tryz.results207, go_sem, RB6_0, RB6_1, RB6_z, RB6_l]) rfl ⟨rfl, ?_⟩ <;> repeat (with_reducible first | exact Below.refl _ _ | refine b_s ?_ _ | refine b_a ?_ _ | refine Below.drew ?_ | refine below_drewN ?_ _ | refine b_t ?_ h6 | refine b_t ?_ h5 | refine b_t ?_ h4 | refine b_t ?_ h3 | refine b_t ?_ h2 | refine b_t ?_ h1))
      · have Tb : Two w2 (w1.heap.size) 0 0 := Two.below (Two.new _ 0 0 _) h2
        have e0 := (Tb).c0
        have e1 := (Tb).c1
        have ez := (Tb).fz
        have el := (Tb).lt
        have T : Two ((w2.setCell ⟨w1.heap.size, 0, none⟩ (.int .i64 LA)).setCell ⟨w1.heap.size, 1, none⟩ (.int .i64 LF)) (w1.heap.size) LA LF := Two.set1 (Two.set0 Tb _) _
        go_wp2_with fail
        go_region_held3 (fun ww => ww.cell? ⟨w.heap.size, 0, none⟩ = some (.string s) ∧ ww.cell? ⟨w.heap.size, 1, none⟩ = some (.int .i64 p) ∧ ww.cell? ⟨w.heap.size, 2, none⟩ = some (.int .i64 n) ∧ ww.cell? ⟨w.heap.size, 3, none⟩ = some (.bool v) ∧ ww.cell? ⟨w.heap.size, 4, none⟩ = some (.bool c)) ((refine ⟨?_, ?_, ?_, ?_, ?_⟩ <;> (first | (go_simp; done) | (repeat (first | assumption | (with_reducible refine memLater ((Below.refl _ _).alloc (Nat.le_refl _) _) ?_) | (with_reducible refine memLater ((Below.refl _ _).drew) ?_) | (with_reducible refine memLater h3 ?_) | (with_reducible refine memLater h4 ?_) | (with_reducible refine memLater h5 ?_) | (with_reducible refine memLater h2 ?_) | (with_reducible refine memLater h1 ?_) | (with_reducible refine (memSet (by omega)).trans ?_)))))) (first | (go_at_call 195; refine (HLine0.out _).mono ?_; rintro r3 w3 ⟨rfl, h3⟩; obtain ⟨hc3, hf3⟩ := bcell h3; have hz3 := h3.size; (try simp at hz3); (try have hl3_0 : w.heap.size < w3.heap.size := (by omega)); (try have hk3_0 : w.heap.size < w3.heap.size + 1 := (by omega)); have T3 : Two w3 (w1.heap.size) (LA) (LF) := (by repeat (with_reducible first | exact T | refine t_o ?_ _ | refine Two.alloc ?_ _ | refine Two.drewN ?_ _ | refine Two.drew ?_ | refine Two.below ?_ h3 | refine Two.below ?_ h2 | refine Two.below ?_ h1)); have T3_0 := T3.c0; have T3_1 := T3.c1; have T3_z := T3.fz; have T3_l := T3.lt; have RB3 : Two w3 (w.heap.size + 1) (0) (0) := (by repeat (with_reducible first | exact RB | refine t_o ?_ _ | refine Two.alloc ?_ _ | refine Two.drewN ?_ _ | refine Two.drew ?_ | refine Two.below ?_ h3 | refine Two.below ?_ h2 | refine Two.below ?_ h1)); have RB3_0 := RB3.c0; have RB3_1 := RB3.c1; have RB3_z := RB3.fz; have RB3_l := RB3.lt) | (go_at_call 241; refine (HN.out _).mono ?_; rintro r4 w4 ⟨rfl, h4⟩; obtain ⟨hc4, hf4⟩ := bcell h4; have hz4 := h4.size; (try simp at hz4); (try have hl4_0 : w.heap.size < w4.heap.size := (by omega)); (try have hk4_0 : w.heap.size < w4.heap.size + 1 := (by omega)); have T4 : Two w4 (w1.heap.size) (LA) (LF) := (by repeat (with_reducible first | exact T | refine t_o ?_ _ | refine Two.alloc ?_ _ | refine Two.drewN ?_ _ | refine Two.drew ?_ | refine Two.below ?_ h3 | refine Two.below ?_ h4 | refine Two.below ?_ h2 | refine Two.below ?_ h1)); have T4_0 := T4.c0; have T4_1 := T4.c1; have T4_z := T4.fz; have T4_l := T4.lt; have RB4 : Two w4 (w.heap.size + 1) (0) (0) := (by repeat (with_reducible first | exact RB | refine t_o ?_ _ | refine Two.alloc ?_ _ | refine Two.drewN ?_ _ | refine Two.drew ?_ | refine Two.below ?_ h3 | refine Two.below ?_ h4 | refine Two.below ?_ h2 | refine Two.below ?_ h1)); have RB4_0 := RB4.c0; have RB4_1 := RB4.c1; have RB4_z := RB4.fz; have RB4_l := RB4.lt) | (go_at_call 180; refine (HD.out _).mono ?_; rintro r5 w5 ⟨rfl, h5⟩; obtain ⟨hc5, hf5⟩ := bcell h5; have hz5 := h5.size; (try simp at hz5); (try have hl5_0 : w.heap.size < w5.heap.size := (by omega)); (try have hk5_0 : w.heap.size < w5.heap.size + 1 := (by omega)); have T5 : Two w5 (w1.heap.size) (LA) (LF) := (by repeat (with_reducible first | exact T | refine t_o ?_ _ | refine Two.alloc ?_ _ | refine Two.drewN ?_ _ | refine Two.drew ?_ | refine Two.below ?_ h3 | refine Two.below ?_ h4 | refine Two.below ?_ h5 | refine Two.below ?_ h2 | refine Two.below ?_ h1)); have T5_0 := T5.c0; have T5_1 := T5.c1; have T5_z := T5.fz; have T5_l := T5.lt; have RB5 : Two w5 (w.heap.size + 1) (0) (0) := (by repeat (with_reducible first | exact RB | refine t_o ?_ _ | refine Two.alloc ?_ _ | refine Two.drewN ?_ _ | refine Two.drew ?_ | refine Two.below ?_ h3 | refine Two.below ?_ h4 | refine Two.below ?_ h5 | refine Two.below ?_ h2 | refine Two.below ?_ h1)); have RB5_0 := RB5.c0; have RB5_1 := RB5.c1; have RB5_z := RB5.fz; have RB5_l := RB5.lt))
        clear hc1 hf1 hc2 hf2 hc3 hf3 hc4 hf4 hc5 hf5
        go_wp2_with fail
        refine (HF.out _).mono ?_
        rintro r6 w6 ⟨rfl, h6⟩
        obtain ⟨hc6, hf6⟩ := bcell h6
        have hz6 := h6.size
        (try simp at hz6)
        have RB6 : Two w6 (w.heap.size + 1) (0) (0) := (by repeat (with_reducible first | exact RB | refine t_o ?_ _ | refine Two.alloc ?_ _ | refine Two.drewN ?_ _ | refine Two.drew ?_ | refine Two.below ?_ h6 | refine Two.below ?_ h5 | refine Two.below ?_ h4 | refine Two.below ?_ h3 | refine Two.below ?_ h2 | refine Two.below ?_ h1))
        have RB6_0 := RB6.c0
        have RB6_1 := RB6.c1
        have RB6_z := RB6.fz
        have RB6_l := RB6.lt
        go_wp2
        all_goals
          first
            | (refine bodyPost_ret (v := .tuple #[.agg #[.int .i64 X, .int .i64 2], .bool true]) (by simp [results, Tryz.results207, go_sem, RB6_0, RB6_1, RB6_z, RB6_l]) rfl ⟨rfl, ?_⟩ <;> repeat (with_reducible first | exact Below.refl _ _ | refine b_s ?_ _ | refine b_a ?_ _ | refine Below.drew ?_ | refine below_drewN ?_ _ | refine b_t ?_ h6 | refine b_t ?_ h5 | refine b_t ?_ h4 | refine b_t ?_ h3 | refine b_t ?_ h2 | refine b_t ?_ h1))
      · have Tb : Two w2 (w.heap.size + 1 + 1) 0 0 := by
          refine Two.below (Two.below (Two.drew ?_) h1) h2
          have := Two.new ((w.alloc (.cells #[.string s, .int .i64 (p), .int .i64 (n), .bool v, .bool c] 206)).alloc (.cells #[.int .i64 0, .int .i64 0] 202)) 0 0 128
          simpa using this
        have e0 := (Tb).c0
        have e1 := (Tb).c1
        have ez := (Tb).fz
        have el := (Tb).lt
        have T : Two ((w2.setCell ⟨w.heap.size + 1 + 1, 0, none⟩ (.int .i64 LA)).setCell ⟨w.heap.size + 1 + 1, 1, none⟩ (.int .i64 LF)) (w.heap.size + 1 + 1) LA LF := Two.set1 (Two.set0 Tb _) _
        go_wp2_with fail
        go_region_held3 (fun ww => ww.cell? ⟨w.heap.size, 0, none⟩ = some (.string s) ∧ ww.cell? ⟨w.heap.size, 1, none⟩ = some (.int .i64 p) ∧ ww.cell? ⟨w.heap.size, 2, none⟩ = some (.int .i64 n) ∧ ww.cell? ⟨w.heap.size, 3, none⟩ = some (.bool v) ∧ ww.cell? ⟨w.heap.size, 4, none⟩ = some (.bool c)) ((refine ⟨?_, ?_, ?_, ?_, ?_⟩ <;> (first | (go_simp; done) | (repeat (first | assumption | (with_reducible refine memLater ((Below.refl _ _).alloc (Nat.le_refl _) _) ?_) | (with_reducible refine memLater ((Below.refl _ _).drew) ?_) | (with_reducible refine memLater h3 ?_) | (with_reducible refine memLater h4 ?_) | (with_reducible refine memLater h5 ?_) | (with_reducible refine memLater h2 ?_) | (with_reducible refine memLater h1 ?_) | (with_reducible refine (memSet (by omega)).trans ?_)))))) (first | (go_at_call 195; refine (HLine0.out _).mono ?_; rintro r3 w3 ⟨rfl, h3⟩; obtain ⟨hc3, hf3⟩ := bcell h3; have hz3 := h3.size; (try simp at hz3); (try have hl3_0 : w.heap.size < w3.heap.size := (by omega)); (try have hk3_0 : w.heap.size < w3.heap.size + 1 := (by omega)); have T3 : Two w3 (w.heap.size + 1 + 1) (LA) (LF) := (by repeat (with_reducible first | exact T | refine t_o ?_ _ | refine Two.alloc ?_ _ | refine Two.drewN ?_ _ | refine Two.drew ?_ | refine Two.below ?_ h3 | refine Two.below ?_ h2 | refine Two.below ?_ h1)); have T3_0 := T3.c0; have T3_1 := T3.c1; have T3_z := T3.fz; have T3_l := T3.lt; have RB3 : Two w3 (w.heap.size + 1) (0) (0) := (by repeat (with_reducible first | exact RB | refine t_o ?_ _ | refine Two.alloc ?_ _ | refine Two.drewN ?_ _ | refine Two.drew ?_ | refine Two.below ?_ h3 | refine Two.below ?_ h2 | refine Two.below ?_ h1)); have RB3_0 := RB3.c0; have RB3_1 := RB3.c1; have RB3_z := RB3.fz; have RB3_l := RB3.lt) | (go_at_call 241; refine (HN.out _).mono ?_; rintro r4 w4 ⟨rfl, h4⟩; obtain ⟨hc4, hf4⟩ := bcell h4; have hz4 := h4.size; (try simp at hz4); (try have hl4_0 : w.heap.size < w4.heap.size := (by omega)); (try have hk4_0 : w.heap.size < w4.heap.size + 1 := (by omega)); have T4 : Two w4 (w.heap.size + 1 + 1) (LA) (LF) := (by repeat (with_reducible first | exact T | refine t_o ?_ _ | refine Two.alloc ?_ _ | refine Two.drewN ?_ _ | refine Two.drew ?_ | refine Two.below ?_ h3 | refine Two.below ?_ h4 | refine Two.below ?_ h2 | refine Two.below ?_ h1)); have T4_0 := T4.c0; have T4_1 := T4.c1; have T4_z := T4.fz; have T4_l := T4.lt; have RB4 : Two w4 (w.heap.size + 1) (0) (0) := (by repeat (with_reducible first | exact RB | refine t_o ?_ _ | refine Two.alloc ?_ _ | refine Two.drewN ?_ _ | refine Two.drew ?_ | refine Two.below ?_ h3 | refine Two.below ?_ h4 | refine Two.below ?_ h2 | refine Two.below ?_ h1)); have RB4_0 := RB4.c0; have RB4_1 := RB4.c1; have RB4_z := RB4.fz; have RB4_l := RB4.lt) | (go_at_call 180; refine (HD.out _).mono ?_; rintro r5 w5 ⟨rfl, h5⟩; obtain ⟨hc5, hf5⟩ := bcell h5; have hz5 := h5.size; (try simp at hz5); (try have hl5_0 : w.heap.size < w5.heap.size := (by omega)); (try have hk5_0 : w.heap.size < w5.heap.size + 1 := (by omega)); have T5 : Two w5 (w.heap.size + 1 + 1) (LA) (LF) := (by repeat (with_reducible first | exact T | refine t_o ?_ _ | refine Two.alloc ?_ _ | refine Two.drewN ?_ _ | refine Two.drew ?_ | refine Two.below ?_ h3 | refine Two.below ?_ h4 | refine Two.below ?_ h5 | refine Two.below ?_ h2 | refine Two.below ?_ h1)); have T5_0 := T5.c0; have T5_1 := T5.c1; have T5_z := T5.fz; have T5_l := T5.lt; have RB5 : Two w5 (w.heap.size + 1) (0) (0) := (by repeat (with_reducible first | exact RB | refine t_o ?_ _ | refine Two.alloc ?_ _ | refine Two.drewN ?_ _ | refine Two.drew ?_ | refine Two.below ?_ h3 | refine Two.below ?_ h4 | refine Two.below ?_ h5 | refine Two.below ?_ h2 | refine Two.below ?_ h1)); have RB5_0 := RB5.c0; have RB5_1 := RB5.c1; have RB5_z := RB5.fz; have RB5_l := RB5.lt))
        clear hc1 hf1 hc2 hf2 hc3 hf3 hc4 hf4 hc5 hf5
        go_wp2_with fail
        refine (HF.out _).mono ?_
        rintro r6 w6 ⟨rfl, h6⟩
        obtain ⟨hc6, hf6⟩ := bcell h6
        have hz6 := h6.size
        (try simp at hz6)
        have RB6 : Two w6 (w.heap.size + 1) (0) (0) := (by repeat (with_reducible first | exact RB | refine t_o ?_ _ | refine Two.alloc ?_ _ | refine Two.drewN ?_ _ | refine Two.drew ?_ | refine Two.below ?_ h6 | refine Two.below ?_ h5 | refine Two.below ?_ h4 | refine Two.below ?_ h3 | refine Two.below ?_ h2 | refine Two.below ?_ h1))
        have RB6_0 := RB6.c0
        have RB6_1 := RB6.c1
        have RB6_z := RB6.fz
        have RB6_l := RB6.lt
        go_wp2
        all_goals
          first
            | (refine bodyPost_ret (v := .tuple #[.agg #[.int .i64 X, .int .i64 2], .bool true]) (by simp [results, Tryz.results207, go_sem, RB6_0, RB6_1, RB6_z, RB6_l]) rfl ⟨rfl, ?_⟩ <;> repeat (with_reducible first | exact Below.refl _ _ | refine b_s ?_ _ | refine b_a ?_ _ | refine Below.drew ?_ | refine below_drewN ?_ _ | refine b_t ?_ h6 | refine b_t ?_ h5 | refine b_t ?_ h4 | refine b_t ?_ h3 | refine b_t ?_ h2 | refine b_t ?_ h1))
    · have h0' : ((0 : Int) < (n : Int)) = False := by simp; omega
      have hkey : key = 103 := by omega
      clear hc hk
      subst hkey
      go_enter Tryz.func207, Tryz.ntmps207
      have s0 : ((w.alloc (.cells #[.string s, .int .i64 (p), .int .i64 (n), .bool v, .bool c] 206)).alloc (.cells #[.int .i64 0, .int .i64 0] 202)).cell? ⟨w.heap.size, 0, none⟩ = some (.string s) := by simp
      have s1 : ((w.alloc (.cells #[.string s, .int .i64 (p), .int .i64 (n), .bool v, .bool c] 206)).alloc (.cells #[.int .i64 0, .int .i64 0] 202)).cell? ⟨w.heap.size, 1, none⟩ = some (.int .i64 p) := by simp
      have s2 : ((w.alloc (.cells #[.string s, .int .i64 (p), .int .i64 (n), .bool v, .bool c] 206)).alloc (.cells #[.int .i64 0, .int .i64 0] 202)).cell? ⟨w.heap.size, 2, none⟩ = some (.int .i64 n) := by simp
      have s3 : ((w.alloc (.cells #[.string s, .int .i64 (p), .int .i64 (n), .bool v, .bool c] 206)).alloc (.cells #[.int .i64 0, .int .i64 0] 202)).cell? ⟨w.heap.size, 3, none⟩ = some (.bool v) := by simp
      have s4 : ((w.alloc (.cells #[.string s, .int .i64 (p), .int .i64 (n), .bool v, .bool c] 206)).alloc (.cells #[.int .i64 0, .int .i64 0] 202)).cell? ⟨w.heap.size, 4, none⟩ = some (.bool c) := by simp
      have RB : Two (((w.alloc (.cells #[.string s, .int .i64 (p), .int .i64 (n), .bool v, .bool c] 206)).alloc (.cells #[.int .i64 0, .int .i64 0] 202))) (w.heap.size + 1) 0 0 := by have := Two.new (w.alloc (.cells #[.string s, .int .i64 (p), .int .i64 (n), .bool v, .bool c] 206)) 0 0 202; simpa using this
      go_wp2_with fail
      go_region_held3 (fun ww => ww.cell? ⟨w.heap.size, 0, none⟩ = some (.string s) ∧ ww.cell? ⟨w.heap.size, 1, none⟩ = some (.int .i64 p) ∧ ww.cell? ⟨w.heap.size, 2, none⟩ = some (.int .i64 n) ∧ ww.cell? ⟨w.heap.size, 3, none⟩ = some (.bool v) ∧ ww.cell? ⟨w.heap.size, 4, none⟩ = some (.bool c)) ((refine ⟨?_, ?_, ?_, ?_, ?_⟩ <;> (first | (go_simp; done) | (repeat (first | assumption | (with_reducible refine memLater ((Below.refl _ _).alloc (Nat.le_refl _) _) ?_) | (with_reducible refine memLater ((Below.refl _ _).drew) ?_) | (with_reducible refine memLater h1 ?_) | (with_reducible refine memLater h2 ?_) | (with_reducible refine (memSet (by omega)).trans ?_)))))) (first | (go_at_call 246; refine (HEnd.out _).mono ?_; rintro r1 w1 ⟨rfl, h1⟩; obtain ⟨hc1, hf1⟩ := bcell h1; have hz1 := h1.size; (try simp at hz1); (try have hl1_0 : w.heap.size < w1.heap.size := (by omega)); (try have hk1_0 : w.heap.size < w1.heap.size + 1 := (by omega)); (try have hl1_1 : w.heap.size + 1 + 1 < w1.heap.size := (by omega)); (try have hk1_1 : w.heap.size + 1 + 1 < w1.heap.size + 1 := (by omega)); (try have hl1_2 : w1.heap.size < w1.heap.size := (by omega)); (try have hk1_2 : w1.heap.size < w1.heap.size + 1 := (by omega)); have RB1 : Two w1 (w.heap.size + 1) (0) (0) := (by repeat (with_reducible first | exact RB | refine t_o ?_ _ | refine Two.alloc ?_ _ | refine Two.drewN ?_ _ | refine Two.drew ?_ | refine Two.below ?_ h1)); have RB1_0 := RB1.c0; have RB1_1 := RB1.c1; have RB1_z := RB1.fz; have RB1_l := RB1.lt) | (go_at_call 195; refine (HLast.out _).mono ?_; rintro r2 w2 ⟨rfl, h2⟩; obtain ⟨hc2, hf2⟩ := bcell h2; have hz2 := h2.size; (try simp at hz2); (try have hl2_0 : w.heap.size < w2.heap.size := (by omega)); (try have hk2_0 : w.heap.size < w2.heap.size + 1 := (by omega)); (try have hl2_1 : w.heap.size + 1 + 1 < w2.heap.size := (by omega)); (try have hk2_1 : w.heap.size + 1 + 1 < w2.heap.size + 1 := (by omega)); (try have hl2_2 : w1.heap.size < w2.heap.size := (by omega)); (try have hk2_2 : w1.heap.size < w2.heap.size + 1 := (by omega)); have RB2 : Two w2 (w.heap.size + 1) (0) (0) := (by repeat (with_reducible first | exact RB | refine t_o ?_ _ | refine Two.alloc ?_ _ | refine Two.drewN ?_ _ | refine Two.drew ?_ | refine Two.below ?_ h1 | refine Two.below ?_ h2)); have RB2_0 := RB2.c0; have RB2_1 := RB2.c1; have RB2_z := RB2.fz; have RB2_l := RB2.lt))
      · have T : Two (w2.alloc (.cells #[.int .i64 LA, .int .i64 LF] 128)) (w2.heap.size) LA LF := Two.new _ _ _ _
        go_wp2_with fail
        go_region_held3 (fun ww => ww.cell? ⟨w.heap.size, 0, none⟩ = some (.string s) ∧ ww.cell? ⟨w.heap.size, 1, none⟩ = some (.int .i64 p) ∧ ww.cell? ⟨w.heap.size, 2, none⟩ = some (.int .i64 n) ∧ ww.cell? ⟨w.heap.size, 3, none⟩ = some (.bool v) ∧ ww.cell? ⟨w.heap.size, 4, none⟩ = some (.bool c)) ((refine ⟨?_, ?_, ?_, ?_, ?_⟩ <;> (first | (go_simp; done) | (repeat (first | assumption | (with_reducible refine memLater ((Below.refl _ _).alloc (Nat.le_refl _) _) ?_) | (with_reducible refine memLater ((Below.refl _ _).drew) ?_) | (with_reducible refine memLater h3 ?_) | (with_reducible refine memLater h4 ?_) | (with_reducible refine memLater h5 ?_) | (with_reducible refine memLater h2 ?_) | (with_reducible refine memLater h1 ?_) | (with_reducible refine (memSet (by omega)).trans ?_)))))) (first | (go_at_call 195; refine (HLine0.out _).mono ?_; rintro r3 w3 ⟨rfl, h3⟩; obtain ⟨hc3, hf3⟩ := bcell h3; have hz3 := h3.size; (try simp at hz3); (try have hl3_0 : w.heap.size < w3.heap.size := (by omega)); (try have hk3_0 : w.heap.size < w3.heap.size + 1 := (by omega)); have T3 : Two w3 (w2.heap.size) (LA) (LF) := (by repeat (with_reducible first | exact T | refine t_o ?_ _ | refine Two.alloc ?_ _ | refine Two.drewN ?_ _ | refine Two.drew ?_ | refine Two.below ?_ h3 | refine Two.below ?_ h2 | refine Two.below ?_ h1)); have T3_0 := T3.c0; have T3_1 := T3.c1; have T3_z := T3.fz; have T3_l := T3.lt; have RB3 : Two w3 (w.heap.size + 1) (0) (0) := (by repeat (with_reducible first | exact RB | refine t_o ?_ _ | refine Two.alloc ?_ _ | refine Two.drewN ?_ _ | refine Two.drew ?_ | refine Two.below ?_ h3 | refine Two.below ?_ h2 | refine Two.below ?_ h1)); have RB3_0 := RB3.c0; have RB3_1 := RB3.c1; have RB3_z := RB3.fz; have RB3_l := RB3.lt) | (go_at_call 241; refine (HN.out _).mono ?_; rintro r4 w4 ⟨rfl, h4⟩; obtain ⟨hc4, hf4⟩ := bcell h4; have hz4 := h4.size; (try simp at hz4); (try have hl4_0 : w.heap.size < w4.heap.size := (by omega)); (try have hk4_0 : w.heap.size < w4.heap.size + 1 := (by omega)); have T4 : Two w4 (w2.heap.size) (LA) (LF) := (by repeat (with_reducible first | exact T | refine t_o ?_ _ | refine Two.alloc ?_ _ | refine Two.drewN ?_ _ | refine Two.drew ?_ | refine Two.below ?_ h3 | refine Two.below ?_ h4 | refine Two.below ?_ h2 | refine Two.below ?_ h1)); have T4_0 := T4.c0; have T4_1 := T4.c1; have T4_z := T4.fz; have T4_l := T4.lt; have RB4 : Two w4 (w.heap.size + 1) (0) (0) := (by repeat (with_reducible first | exact RB | refine t_o ?_ _ | refine Two.alloc ?_ _ | refine Two.drewN ?_ _ | refine Two.drew ?_ | refine Two.below ?_ h3 | refine Two.below ?_ h4 | refine Two.below ?_ h2 | refine Two.below ?_ h1)); have RB4_0 := RB4.c0; have RB4_1 := RB4.c1; have RB4_z := RB4.fz; have RB4_l := RB4.lt) | (go_at_call 180; refine (HD.out _).mono ?_; rintro r5 w5 ⟨rfl, h5⟩; obtain ⟨hc5, hf5⟩ := bcell h5; have hz5 := h5.size; (try simp at hz5); (try have hl5_0 : w.heap.size < w5.heap.size := (by omega)); (try have hk5_0 : w.heap.size < w5.heap.size + 1 := (by omega)); have T5 : Two w5 (w2.heap.size) (LA) (LF) := (by repeat (with_reducible first | exact T | refine t_o ?_ _ | refine Two.alloc ?_ _ | refine Two.drewN ?_ _ | refine Two.drew ?_ | refine Two.below ?_ h3 | refine Two.below ?_ h4 | refine Two.below ?_ h5 | refine Two.below ?_ h2 | refine Two.below ?_ h1)); have T5_0 := T5.c0; have T5_1 := T5.c1; have T5_z := T5.fz; have T5_l := T5.lt; have RB5 : Two w5 (w.heap.size + 1) (0) (0) := (by repeat (with_reducible first | exact RB | refine t_o ?_ _ | refine Two.alloc ?_ _ | refine Two.drewN ?_ _ | refine Two.drew ?_ | refine Two.below ?_ h3 | refine Two.below ?_ h4 | refine Two.below ?_ h5 | refine Two.below ?_ h2 | refine Two.below ?_ h1)); have RB5_0 := RB5.c0; have RB5_1 := RB5.c1; have RB5_z := RB5.fz; have RB5_l := RB5.lt))
        clear hc1 hf1 hc2 hf2 hc3 hf3 hc4 hf4 hc5 hf5
        go_wp2_with fail
        refine (HF.out _).mono ?_
        rintro r6 w6 ⟨rfl, h6⟩
        obtain ⟨hc6, hf6⟩ := bcell h6
        have hz6 := h6.size
        (try simp at hz6)
        have RB6 : Two w6 (w.heap.size + 1) (0) (0) := (by repeat (with_reducible first | exact RB | refine t_o ?_ _ | refine Two.alloc ?_ _ | refine Two.drewN ?_ _ | refine Two.drew ?_ | refine Two.below ?_ h6 | refine Two.below ?_ h5 | refine Two.below ?_ h4 | refine Two.below ?_ h3 | refine Two.below ?_ h2 | refine Two.below ?_ h1))
        have RB6_0 := RB6.c0
        have RB6_1 := RB6.c1
        have RB6_z := RB6.fz
        have RB6_l := RB6.lt
        go_wp2
        all_goals
          first
            | (refine bodyPost_ret (v := .tuple #[.agg #[.int .i64 X, .int .i64 2], .bool true]) (by simp [results, Tryz.results207, go_sem, RB6_0, RB6_1, RB6_z, RB6_l]) rfl ⟨rfl, ?_⟩ <;> repeat (with_reducible first | exact Below.refl _ _ | refine b_s ?_ _ | refine b_a ?_ _ | refine Below.drew ?_ | refine below_drewN ?_ _ | refine b_t ?_ h6 | refine b_t ?_ h5 | refine b_t ?_ h4 | refine b_t ?_ h3 | refine b_t ?_ h2 | refine b_t ?_ h1))
      · have Tb : Two w2 (w1.heap.size) 0 0 := Two.below (Two.new _ 0 0 _) h2
        have e0 := (Tb).c0
        have e1 := (Tb).c1
        have ez := (Tb).fz
        have el := (Tb).lt
        have T : Two ((w2.setCell ⟨w1.heap.size, 0, none⟩ (.int .i64 LA)).setCell ⟨w1.heap.size, 1, none⟩ (.int .i64 LF)) (w1.heap.size) LA LF := Two.set1 (Two.set0 Tb _) _
        go_wp2_with fail
        go_region_held3 (fun ww => ww.cell? ⟨w.heap.size, 0, none⟩ = some (.string s) ∧ ww.cell? ⟨w.heap.size, 1, none⟩ = some (.int .i64 p) ∧ ww.cell? ⟨w.heap.size, 2, none⟩ = some (.int .i64 n) ∧ ww.cell? ⟨w.heap.size, 3, none⟩ = some (.bool v) ∧ ww.cell? ⟨w.heap.size, 4, none⟩ = some (.bool c)) ((refine ⟨?_, ?_, ?_, ?_, ?_⟩ <;> (first | (go_simp; done) | (repeat (first | assumption | (with_reducible refine memLater ((Below.refl _ _).alloc (Nat.le_refl _) _) ?_) | (with_reducible refine memLater ((Below.refl _ _).drew) ?_) | (with_reducible refine memLater h3 ?_) | (with_reducible refine memLater h4 ?_) | (with_reducible refine memLater h5 ?_) | (with_reducible refine memLater h2 ?_) | (with_reducible refine memLater h1 ?_) | (with_reducible refine (memSet (by omega)).trans ?_)))))) (first | (go_at_call 195; refine (HLine0.out _).mono ?_; rintro r3 w3 ⟨rfl, h3⟩; obtain ⟨hc3, hf3⟩ := bcell h3; have hz3 := h3.size; (try simp at hz3); (try have hl3_0 : w.heap.size < w3.heap.size := (by omega)); (try have hk3_0 : w.heap.size < w3.heap.size + 1 := (by omega)); have T3 : Two w3 (w1.heap.size) (LA) (LF) := (by repeat (with_reducible first | exact T | refine t_o ?_ _ | refine Two.alloc ?_ _ | refine Two.drewN ?_ _ | refine Two.drew ?_ | refine Two.below ?_ h3 | refine Two.below ?_ h2 | refine Two.below ?_ h1)); have T3_0 := T3.c0; have T3_1 := T3.c1; have T3_z := T3.fz; have T3_l := T3.lt; have RB3 : Two w3 (w.heap.size + 1) (0) (0) := (by repeat (with_reducible first | exact RB | refine t_o ?_ _ | refine Two.alloc ?_ _ | refine Two.drewN ?_ _ | refine Two.drew ?_ | refine Two.below ?_ h3 | refine Two.below ?_ h2 | refine Two.below ?_ h1)); have RB3_0 := RB3.c0; have RB3_1 := RB3.c1; have RB3_z := RB3.fz; have RB3_l := RB3.lt) | (go_at_call 241; refine (HN.out _).mono ?_; rintro r4 w4 ⟨rfl, h4⟩; obtain ⟨hc4, hf4⟩ := bcell h4; have hz4 := h4.size; (try simp at hz4); (try have hl4_0 : w.heap.size < w4.heap.size := (by omega)); (try have hk4_0 : w.heap.size < w4.heap.size + 1 := (by omega)); have T4 : Two w4 (w1.heap.size) (LA) (LF) := (by repeat (with_reducible first | exact T | refine t_o ?_ _ | refine Two.alloc ?_ _ | refine Two.drewN ?_ _ | refine Two.drew ?_ | refine Two.below ?_ h3 | refine Two.below ?_ h4 | refine Two.below ?_ h2 | refine Two.below ?_ h1)); have T4_0 := T4.c0; have T4_1 := T4.c1; have T4_z := T4.fz; have T4_l := T4.lt; have RB4 : Two w4 (w.heap.size + 1) (0) (0) := (by repeat (with_reducible first | exact RB | refine t_o ?_ _ | refine Two.alloc ?_ _ | refine Two.drewN ?_ _ | refine Two.drew ?_ | refine Two.below ?_ h3 | refine Two.below ?_ h4 | refine Two.below ?_ h2 | refine Two.below ?_ h1)); have RB4_0 := RB4.c0; have RB4_1 := RB4.c1; have RB4_z := RB4.fz; have RB4_l := RB4.lt) | (go_at_call 180; refine (HD.out _).mono ?_; rintro r5 w5 ⟨rfl, h5⟩; obtain ⟨hc5, hf5⟩ := bcell h5; have hz5 := h5.size; (try simp at hz5); (try have hl5_0 : w.heap.size < w5.heap.size := (by omega)); (try have hk5_0 : w.heap.size < w5.heap.size + 1 := (by omega)); have T5 : Two w5 (w1.heap.size) (LA) (LF) := (by repeat (with_reducible first | exact T | refine t_o ?_ _ | refine Two.alloc ?_ _ | refine Two.drewN ?_ _ | refine Two.drew ?_ | refine Two.below ?_ h3 | refine Two.below ?_ h4 | refine Two.below ?_ h5 | refine Two.below ?_ h2 | refine Two.below ?_ h1)); have T5_0 := T5.c0; have T5_1 := T5.c1; have T5_z := T5.fz; have T5_l := T5.lt; have RB5 : Two w5 (w.heap.size + 1) (0) (0) := (by repeat (with_reducible first | exact RB | refine t_o ?_ _ | refine Two.alloc ?_ _ | refine Two.drewN ?_ _ | refine Two.drew ?_ | refine Two.below ?_ h3 | refine Two.below ?_ h4 | refine Two.below ?_ h5 | refine Two.below ?_ h2 | refine Two.below ?_ h1)); have RB5_0 := RB5.c0; have RB5_1 := RB5.c1; have RB5_z := RB5.fz; have RB5_l := RB5.lt))
        clear hc1 hf1 hc2 hf2 hc3 hf3 hc4 hf4 hc5 hf5
        go_wp2_with fail
        refine (HF.out _).mono ?_
        rintro r6 w6 ⟨rfl, h6⟩
        obtain ⟨hc6, hf6⟩ := bcell h6
        have hz6 := h6.size
        (try simp at hz6)
        have RB6 : Two w6 (w.heap.size + 1) (0) (0) := (by repeat (with_reducible first | exact RB | refine t_o ?_ _ | refine Two.alloc ?_ _ | refine Two.drewN ?_ _ | refine Two.drew ?_ | refine Two.below ?_ h6 | refine Two.below ?_ h5 | refine Two.below ?_ h4 | refine Two.below ?_ h3 | refine Two.below ?_ h2 | refine Two.below ?_ h1))
        have RB6_0 := RB6.c0
        have RB6_1 := RB6.c1
        have RB6_z := RB6.fz
        have RB6_l := RB6.lt
        go_wp2
        all_goals
          first
            | (refine bodyPost_ret (v := .tuple #[.agg #[.int .i64 X, .int .i64 2], .bool true]) (by simp [results, Tryz.results207, go_sem, RB6_0, RB6_1, RB6_z, RB6_l]) rfl ⟨rfl, ?_⟩ <;> repeat (with_reducible first | exact Below.refl _ _ | refine b_s ?_ _ | refine b_a ?_ _ | refine Below.drew ?_ | refine below_drewN ?_ _ | refine b_t ?_ h6 | refine b_t ?_ h5 | refine b_t ?_ h4 | refine b_t ?_ h3 | refine b_t ?_ h2 | refine b_t ?_ h1))
      · have Tb : Two w2 (w.heap.size + 1 + 1) 0 0 := by
          refine Two.below (Two.below (Two.drew ?_) h1) h2
          have := Two.new ((w.alloc (.cells #[.string s, .int .i64 (p), .int .i64 (n), .bool v, .bool c] 206)).alloc (.cells #[.int .i64 0, .int .i64 0] 202)) 0 0 128
          simpa using this
        have e0 := (Tb).c0
        have e1 := (Tb).c1
        have ez := (Tb).fz
        have el := (Tb).lt
        have T : Two ((w2.setCell ⟨w.heap.size + 1 + 1, 0, none⟩ (.int .i64 LA)).setCell ⟨w.heap.size + 1 + 1, 1, none⟩ (.int .i64 LF)) (w.heap.size + 1 + 1) LA LF := Two.set1 (Two.set0 Tb _) _
        go_wp2_with fail
        go_region_held3 (fun ww => ww.cell? ⟨w.heap.size, 0, none⟩ = some (.string s) ∧ ww.cell? ⟨w.heap.size, 1, none⟩ = some (.int .i64 p) ∧ ww.cell? ⟨w.heap.size, 2, none⟩ = some (.int .i64 n) ∧ ww.cell? ⟨w.heap.size, 3, none⟩ = some (.bool v) ∧ ww.cell? ⟨w.heap.size, 4, none⟩ = some (.bool c)) ((refine ⟨?_, ?_, ?_, ?_, ?_⟩ <;> (first | (go_simp; done) | (repeat (first | assumption | (with_reducible refine memLater ((Below.refl _ _).alloc (Nat.le_refl _) _) ?_) | (with_reducible refine memLater ((Below.refl _ _).drew) ?_) | (with_reducible refine memLater h3 ?_) | (with_reducible refine memLater h4 ?_) | (with_reducible refine memLater h5 ?_) | (with_reducible refine memLater h2 ?_) | (with_reducible refine memLater h1 ?_) | (with_reducible refine (memSet (by omega)).trans ?_)))))) (first | (go_at_call 195; refine (HLine0.out _).mono ?_; rintro r3 w3 ⟨rfl, h3⟩; obtain ⟨hc3, hf3⟩ := bcell h3; have hz3 := h3.size; (try simp at hz3); (try have hl3_0 : w.heap.size < w3.heap.size := (by omega)); (try have hk3_0 : w.heap.size < w3.heap.size + 1 := (by omega)); have T3 : Two w3 (w.heap.size + 1 + 1) (LA) (LF) := (by repeat (with_reducible first | exact T | refine t_o ?_ _ | refine Two.alloc ?_ _ | refine Two.drewN ?_ _ | refine Two.drew ?_ | refine Two.below ?_ h3 | refine Two.below ?_ h2 | refine Two.below ?_ h1)); have T3_0 := T3.c0; have T3_1 := T3.c1; have T3_z := T3.fz; have T3_l := T3.lt; have RB3 : Two w3 (w.heap.size + 1) (0) (0) := (by repeat (with_reducible first | exact RB | refine t_o ?_ _ | refine Two.alloc ?_ _ | refine Two.drewN ?_ _ | refine Two.drew ?_ | refine Two.below ?_ h3 | refine Two.below ?_ h2 | refine Two.below ?_ h1)); have RB3_0 := RB3.c0; have RB3_1 := RB3.c1; have RB3_z := RB3.fz; have RB3_l := RB3.lt) | (go_at_call 241; refine (HN.out _).mono ?_; rintro r4 w4 ⟨rfl, h4⟩; obtain ⟨hc4, hf4⟩ := bcell h4; have hz4 := h4.size; (try simp at hz4); (try have hl4_0 : w.heap.size < w4.heap.size := (by omega)); (try have hk4_0 : w.heap.size < w4.heap.size + 1 := (by omega)); have T4 : Two w4 (w.heap.size + 1 + 1) (LA) (LF) := (by repeat (with_reducible first | exact T | refine t_o ?_ _ | refine Two.alloc ?_ _ | refine Two.drewN ?_ _ | refine Two.drew ?_ | refine Two.below ?_ h3 | refine Two.below ?_ h4 | refine Two.below ?_ h2 | refine Two.below ?_ h1)); have T4_0 := T4.c0; have T4_1 := T4.c1; have T4_z := T4.fz; have T4_l := T4.lt; have RB4 : Two w4 (w.heap.size + 1) (0) (0) := (by repeat (with_reducible first | exact RB | refine t_o ?_ _ | refine Two.alloc ?_ _ | refine Two.drewN ?_ _ | refine Two.drew ?_ | refine Two.below ?_ h3 | refine Two.below ?_ h4 | refine Two.below ?_ h2 | refine Two.below ?_ h1)); have RB4_0 := RB4.c0; have RB4_1 := RB4.c1; have RB4_z := RB4.fz; have RB4_l := RB4.lt) | (go_at_call 180; refine (HD.out _).mono ?_; rintro r5 w5 ⟨rfl, h5⟩; obtain ⟨hc5, hf5⟩ := bcell h5; have hz5 := h5.size; (try simp at hz5); (try have hl5_0 : w.heap.size < w5.heap.size := (by omega)); (try have hk5_0 : w.heap.size < w5.heap.size + 1 := (by omega)); have T5 : Two w5 (w.heap.size + 1 + 1) (LA) (LF) := (by repeat (with_reducible first | exact T | refine t_o ?_ _ | refine Two.alloc ?_ _ | refine Two.drewN ?_ _ | refine Two.drew ?_ | refine Two.below ?_ h3 | refine Two.below ?_ h4 | refine Two.below ?_ h5 | refine Two.below ?_ h2 | refine Two.below ?_ h1)); have T5_0 := T5.c0; have T5_1 := T5.c1; have T5_z := T5.fz; have T5_l := T5.lt; have RB5 : Two w5 (w.heap.size + 1) (0) (0) := (by repeat (with_reducible first | exact RB | refine t_o ?_ _ | refine Two.alloc ?_ _ | refine Two.drewN ?_ _ | refine Two.drew ?_ | refine Two.below ?_ h3 | refine Two.below ?_ h4 | refine Two.below ?_ h5 | refine Two.below ?_ h2 | refine Two.below ?_ h1)); have RB5_0 := RB5.c0; have RB5_1 := RB5.c1; have RB5_z := RB5.fz; have RB5_l := RB5.lt))
        clear hc1 hf1 hc2 hf2 hc3 hf3 hc4 hf4 hc5 hf5
        go_wp2_with fail
        refine (HF.out _).mono ?_
        rintro r6 w6 ⟨rfl, h6⟩
        obtain ⟨hc6, hf6⟩ := bcell h6
        have hz6 := h6.size
        (try simp at hz6)
        have RB6 : Two w6 (w.heap.size + 1) (0) (0) := (by repeat (with_reducible first | exact RB | refine t_o ?_ _ | refine Two.alloc ?_ _ | refine Two.drewN ?_ _ | refine Two.drew ?_ | refine Two.below ?_ h6 | refine Two.below ?_ h5 | refine Two.below ?_ h4 | refine Two.below ?_ h3 | refine Two.below ?_ h2 | refine Two.below ?_ h1))
        have RB6_0 := RB6.c0
        have RB6_1 := RB6.c1
        have RB6_z := RB6.fz
        have RB6_l := RB6.lt
        go_wp2
        all_goals
          first
            | (refine bodyPost_ret (v := .tuple #[.agg #[.int .i64 X, .int .i64 2], .bool true]) (by simp [results, Tryz.results207, go_sem, RB6_0, RB6_1, RB6_z, RB6_l]) rfl ⟨rfl, ?_⟩ <;> repeat (with_reducible first | exact Below.refl _ _ | refine b_s ?_ _ | refine b_a ?_ _ | refine Below.drew ?_ | refine below_drewN ?_ _ | refine b_t ?_ h6 | refine b_t ?_ h5 | refine b_t ?_ h4 | refine b_t ?_ h3 | refine b_t ?_ h2 | refine b_t ?_ h1))
  · have HF := HF (Nib.lns s - 1) (by omega)
    rw [if_neg hc]
    clear HD HLine0 hm2
    generalize Nib.frs s (Nib.att s (Nib.lns s - 1)) = X at *
    generalize Nib.fin s (Nib.att s (Nib.lns s - 1)) = LF at *
    generalize Nib.att s (Nib.lns s - 1) = LA at *
    have h0' : ((0 : Int) < (n : Int)) = False := by simp; omega
    have hkey : key = 71 := by omega
    have h0 : ¬ 0 < n := by omega
    clear hc hk
    subst hkey
    go_enter Tryz.func207, Tryz.ntmps207
    have s0 : ((w.alloc (.cells #[.string s, .int .i64 (p), .int .i64 (n), .bool v, .bool c] 206)).alloc (.cells #[.int .i64 0, .int .i64 0] 202)).cell? ⟨w.heap.size, 0, none⟩ = some (.string s) := by simp
    have s1 : ((w.alloc (.cells #[.string s, .int .i64 (p), .int .i64 (n), .bool v, .bool c] 206)).alloc (.cells #[.int .i64 0, .int .i64 0] 202)).cell? ⟨w.heap.size, 1, none⟩ = some (.int .i64 p) := by simp
    have s2 : ((w.alloc (.cells #[.string s, .int .i64 (p), .int .i64 (n), .bool v, .bool c] 206)).alloc (.cells #[.int .i64 0, .int .i64 0] 202)).cell? ⟨w.heap.size, 2, none⟩ = some (.int .i64 n) := by simp
    have s3 : ((w.alloc (.cells #[.string s, .int .i64 (p), .int .i64 (n), .bool v, .bool c] 206)).alloc (.cells #[.int .i64 0, .int .i64 0] 202)).cell? ⟨w.heap.size, 3, none⟩ = some (.bool v) := by simp
    have s4 : ((w.alloc (.cells #[.string s, .int .i64 (p), .int .i64 (n), .bool v, .bool c] 206)).alloc (.cells #[.int .i64 0, .int .i64 0] 202)).cell? ⟨w.heap.size, 4, none⟩ = some (.bool c) := by simp
    have RB : Two (((w.alloc (.cells #[.string s, .int .i64 (p), .int .i64 (n), .bool v, .bool c] 206)).alloc (.cells #[.int .i64 0, .int .i64 0] 202))) (w.heap.size + 1) 0 0 := by have := Two.new (w.alloc (.cells #[.string s, .int .i64 (p), .int .i64 (n), .bool v, .bool c] 206)) 0 0 202; simpa using this
    go_wp2_with fail
    go_region_held3 (fun ww => ww.cell? ⟨w.heap.size, 0, none⟩ = some (.string s) ∧ ww.cell? ⟨w.heap.size, 1, none⟩ = some (.int .i64 p) ∧ ww.cell? ⟨w.heap.size, 2, none⟩ = some (.int .i64 n) ∧ ww.cell? ⟨w.heap.size, 3, none⟩ = some (.bool v) ∧ ww.cell? ⟨w.heap.size, 4, none⟩ = some (.bool c)) ((refine ⟨?_, ?_, ?_, ?_, ?_⟩ <;> (first | (go_simp; done) | (repeat (first | assumption | (with_reducible refine memLater ((Below.refl _ _).alloc (Nat.le_refl _) _) ?_) | (with_reducible refine memLater ((Below.refl _ _).drew) ?_) | (with_reducible refine memLater h1 ?_) | (with_reducible refine memLater h2 ?_) | (with_reducible refine (memSet (by omega)).trans ?_)))))) (first | (go_at_call 246; refine (HEnd.out _).mono ?_; rintro r1 w1 ⟨rfl, h1⟩; obtain ⟨hc1, hf1⟩ := bcell h1; have hz1 := h1.size; (try simp at hz1); (try have hl1_0 : w.heap.size < w1.heap.size := (by omega)); (try have hk1_0 : w.heap.size < w1.heap.size + 1 := (by omega)); (try have hl1_1 : w.heap.size + 1 + 1 < w1.heap.size := (by omega)); (try have hk1_1 : w.heap.size + 1 + 1 < w1.heap.size + 1 := (by omega)); (try have hl1_2 : w1.heap.size < w1.heap.size := (by omega)); (try have hk1_2 : w1.heap.size < w1.heap.size + 1 := (by omega)); have RB1 : Two w1 (w.heap.size + 1) (0) (0) := (by repeat (with_reducible first | exact RB | refine t_o ?_ _ | refine Two.alloc ?_ _ | refine Two.drewN ?_ _ | refine Two.drew ?_ | refine Two.below ?_ h1)); have RB1_0 := RB1.c0; have RB1_1 := RB1.c1; have RB1_z := RB1.fz; have RB1_l := RB1.lt) | (go_at_call 195; refine (HLast.out _).mono ?_; rintro r2 w2 ⟨rfl, h2⟩; obtain ⟨hc2, hf2⟩ := bcell h2; have hz2 := h2.size; (try simp at hz2); (try have hl2_0 : w.heap.size < w2.heap.size := (by omega)); (try have hk2_0 : w.heap.size < w2.heap.size + 1 := (by omega)); (try have hl2_1 : w.heap.size + 1 + 1 < w2.heap.size := (by omega)); (try have hk2_1 : w.heap.size + 1 + 1 < w2.heap.size + 1 := (by omega)); (try have hl2_2 : w1.heap.size < w2.heap.size := (by omega)); (try have hk2_2 : w1.heap.size < w2.heap.size + 1 := (by omega)); have RB2 : Two w2 (w.heap.size + 1) (0) (0) := (by repeat (with_reducible first | exact RB | refine t_o ?_ _ | refine Two.alloc ?_ _ | refine Two.drewN ?_ _ | refine Two.drew ?_ | refine Two.below ?_ h1 | refine Two.below ?_ h2)); have RB2_0 := RB2.c0; have RB2_1 := RB2.c1; have RB2_z := RB2.fz; have RB2_l := RB2.lt))
    · clear hc1 hf1 hc2 hf2
      go_wp2_with fail
      refine (HF.out _).mono ?_
      rintro r6 w6 ⟨rfl, h6⟩
      obtain ⟨hc6, hf6⟩ := bcell h6
      have hz6 := h6.size
      (try simp at hz6)
      have RB6 : Two w6 (w.heap.size + 1) (0) (0) := (by repeat (with_reducible first | exact RB | refine t_o ?_ _ | refine Two.alloc ?_ _ | refine Two.drewN ?_ _ | refine Two.drew ?_ | refine Two.below ?_ h6 | refine Two.below ?_ h2 | refine Two.below ?_ h1))
      have RB6_0 := RB6.c0
      have RB6_1 := RB6.c1
      have RB6_z := RB6.fz
      have RB6_l := RB6.lt
      go_wp2
      all_goals
        first
          | (refine bodyPost_ret (v := .tuple #[.agg #[.int .i64 X, .int .i64 2], .bool true]) (by simp [results, Tryz.results207, go_sem, RB6_0, RB6_1, RB6_z, RB6_l]) rfl ⟨rfl, ?_⟩ <;> repeat (with_reducible first | exact Below.refl _ _ | refine b_s ?_ _ | refine b_a ?_ _ | refine Below.drew ?_ | refine below_drewN ?_ _ | refine b_t ?_ h6 | refine b_t ?_ h2 | refine b_t ?_ h1))
    · have Tb : Two w2 (w1.heap.size) 0 0 := Two.below (Two.new _ 0 0 _) h2
      have e0 := (Tb).c0
      have e1 := (Tb).c1
      have ez := (Tb).fz
      have el := (Tb).lt
      clear hc1 hf1 hc2 hf2
      go_wp2_with fail
      refine (HF.out _).mono ?_
      rintro r6 w6 ⟨rfl, h6⟩
      obtain ⟨hc6, hf6⟩ := bcell h6
      have hz6 := h6.size
      (try simp at hz6)
      have RB6 : Two w6 (w.heap.size + 1) (0) (0) := (by repeat (with_reducible first | exact RB | refine t_o ?_ _ | refine Two.alloc ?_ _ | refine Two.drewN ?_ _ | refine Two.drew ?_ | refine Two.below ?_ h6 | refine Two.below ?_ h2 | refine Two.below ?_ h1))
      have RB6_0 := RB6.c0
      have RB6_1 := RB6.c1
      have RB6_z := RB6.fz
      have RB6_l := RB6.lt
      go_wp2
      all_goals
        first
          | (refine bodyPost_ret (v := .tuple #[.agg #[.int .i64 X, .int .i64 2], .bool true]) (by simp [results, Tryz.results207, go_sem, RB6_0, RB6_1, RB6_z, RB6_l]) rfl ⟨rfl, ?_⟩ <;> repeat (with_reducible first | exact Below.refl _ _ | refine b_s ?_ _ | refine b_a ?_ _ | refine Below.drew ?_ | refine below_drewN ?_ _ | refine b_t ?_ h6 | refine b_t ?_ h2 | refine b_t ?_ h1))
    · have Tb : Two w2 (w.heap.size + 1 + 1) 0 0 := by
        refine Two.below (Two.below (Two.drew ?_) h1) h2
        have := Two.new ((w.alloc (.cells #[.string s, .int .i64 (p), .int .i64 (n), .bool v, .bool c] 206)).alloc (.cells #[.int .i64 0, .int .i64 0] 202)) 0 0 128
        simpa using this
      have e0 := (Tb).c0
      have e1 := (Tb).c1
      have ez := (Tb).fz
      have el := (Tb).lt
      clear hc1 hf1 hc2 hf2
      go_wp2_with fail
      refine (HF.out _).mono ?_
      rintro r6 w6 ⟨rfl, h6⟩
      obtain ⟨hc6, hf6⟩ := bcell h6
      have hz6 := h6.size
      (try simp at hz6)
      have RB6 : Two w6 (w.heap.size + 1) (0) (0) := (by repeat (with_reducible first | exact RB | refine t_o ?_ _ | refine Two.alloc ?_ _ | refine Two.drewN ?_ _ | refine Two.drew ?_ | refine Two.below ?_ h6 | refine Two.below ?_ h2 | refine Two.below ?_ h1))
      have RB6_0 := RB6.c0
      have RB6_1 := RB6.c1
      have RB6_z := RB6.fz
      have RB6_l := RB6.lt
      go_wp2
      all_goals
        first
          | (refine bodyPost_ret (v := .tuple #[.agg #[.int .i64 X, .int .i64 2], .bool true]) (by simp [results, Tryz.results207, go_sem, RB6_0, RB6_1, RB6_z, RB6_l]) rfl ⟨rfl, ?_⟩ <;> repeat (with_reducible first | exact Below.refl _ _ | refine b_s ?_ _ | refine b_a ?_ _ | refine Below.drew ?_ | refine below_drewN ?_ _ | refine b_t ?_ h6 | refine b_t ?_ h2 | refine b_t ?_ h1))
end Go.Proofs.YtlendfhehhacpaaGreat
