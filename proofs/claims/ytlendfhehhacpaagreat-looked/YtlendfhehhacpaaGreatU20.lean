/- A part. -/
import Derived.Test.YtlendfhehhacpaaGreatU17
set_option linter.unusedVariables false
set_option linter.unusedSimpArgs false
set_option maxRecDepth 100000
set_option maxHeartbeats 8000000
namespace Go.Proofs.YtlendfhehhacpaaGreat
open Go.RowKit Nib Tryz
theorem qt41 {P : Prop} (h : P := by
  generalize beg s p = B at *
  have : (if max (A : Int) ((F : Int) - 1) < (A : Int) + p - B then max (A : Int) ((F : Int) - 1) else (A : Int) + p - B) = min ((A : Int) + ((p : Int) - B)) (max (A : Int) ((F : Int) - 1)) := by split <;> omega
  rw [this]
 ) : P := h
theorem sToLine_j (s : ByteArray) (p n : Nat) (v c given : Bool) (w : World) (hs : s.size ≤ 1000) (hp : p ≤ s.size) (hn : n ≤ 99) :
  qC 206 #[.agg #[.string s, .int .i64 (p), .int .i64 (n), .bool v, .bool c], .int .u8 106] w (.tuple #[.agg #[.int .i64 (wayX (lineWay s p 106 (max n 1) given)), .int .i64 (wayK (lineWay s p 106 (max n 1) given))], .bool (wayZ (lineWay s p 106 (max n 1) given))]) := by
 have hm := lin_lt hp
 refine sToLine_gen s p n v c 106 1 w _ (min (lin s p + max n 1) (lns s - 1)) (min (max n 1) (lns s - 1 - lin s p)) (max n 1) hs hp hn rfl qo (Or.inl ⟨rfl, rfl⟩) ?_ ?_
 ·intro ww
  rw [fin_eq hp, beg_eq hp]
  exact tFurther_down s _ _ _ _ (lin s p) (max n 1) ww hs hm rfl rfl rfl rfl qo
 ·rw [Hid]
  unfold lineWay lineTo
  rw [if_pos rfl]
  by_cases h : (lns s : Int) ≤ (lin s p : Int) + (max n 1 : Nat)
  ·rw [if_pos (Or.inr h), if_pos qo]
  ·have hx : ¬ ((min (max n 1) (lns s - 1 - lin s p) : Nat) : Int) < ((max n 1 : Nat) : Int) := by omega
   rw [if_neg qo]
   simp only [hx, if_false]
   have e1 : ((lin s p : Int) + (max n 1 : Nat)).toNat = lin s p + max n 1 := by omega
   have e2 : min (lin s p + max n 1) (lns s - 1) = lin s p + max n 1 := by omega
   have hb := beg_le s p
   rw [e1, e2, lst_max, beg_att qo]
   generalize fin s (att s (lin s p + max n 1)) = F
   generalize att s (lin s p + max n 1) = A
   exact qt41
theorem sToLine_k (s : ByteArray) (p n : Nat) (v c given : Bool) (w : World) (hs : s.size ≤ 1000) (hp : p ≤ s.size) (hn : n ≤ 99) :
  qC 206 #[.agg #[.string s, .int .i64 (p), .int .i64 (n), .bool v, .bool c], .int .u8 107] w (.tuple #[.agg #[.int .i64 (wayX (lineWay s p 107 (max n 1) given)), .int .i64 (wayK (lineWay s p 107 (max n 1) given))], .bool (wayZ (lineWay s p 107 (max n 1) given))]) := by
 have hm := lin_lt hp
 refine sToLine_gen s p n v c 107 (-1) w _ (lin s p - max n 1) (min (max n 1) (lin s p)) (max n 1) hs hp hn rfl qo (Or.inr ⟨rfl, rfl⟩) ?_ ?_
 ·intro ww
  rw [fin_eq hp, beg_eq hp]
  exact tFurther_up s _ _ _ _ (lin s p) (max n 1) ww hs hm rfl rfl rfl rfl qo
 ·rw [Hid]
  unfold lineWay lineTo
  rw [if_neg qd, if_pos rfl]
  by_cases h : (lin s p : Int) - (max n 1 : Nat) < 0
  ·rw [if_pos (Or.inl h), if_pos qo]
  ·have hx : ¬ ((min (max n 1) (lin s p) : Nat) : Int) < ((max n 1 : Nat) : Int) := by omega
   rw [if_neg qo]
   simp only [hx, if_false]
   have e1 : ((lin s p : Int) - (max n 1 : Nat)).toNat = lin s p - max n 1 := by omega
   have hb := beg_le s p
   rw [e1, lst_max, beg_att qo]
   generalize fin s (att s (lin s p - max n 1)) = F
   generalize att s (lin s p - max n 1) = A
   exact qt41
theorem qt14 {P : Prop} (h : P := by
  go_wp2_with fail
  refine (HF.out _).mono ?_
  rintro r6 w6 ⟨rfl, h6⟩
  obtain ⟨hc6, hf6, hz6⟩ := qb h6
  (try simp at hz6)
  have RB6 : Two w6 (w.heap.size + 1) (0) (0) := qTw
  have ⟨RB6_0, RB6_1, RB6_z, RB6_l⟩ := RB6
  go_wp2
  all_goals
   first
    | (exact qV (.tuple #[.agg #[.int .i64 X, .int .i64 2], .bool true]) (by simp [results, results207, go_sem, RB6_0, RB6_1, RB6_z, RB6_l]) rfl)
 ) : P := h
theorem qt2 {P : Prop} (h : P := by
  go_enter func207, ntmps207
  have s0 : ((w.alloc (.cells #[.string s, .int .i64 (p), .int .i64 (n), .bool v, .bool c] 206)).alloc (.cells #[.int .i64 0, .int .i64 0] 202)).cell? ⟨w.heap.size, 0, none⟩ = some (.string s) := by simp
  have s1 : ((w.alloc (.cells #[.string s, .int .i64 (p), .int .i64 (n), .bool v, .bool c] 206)).alloc (.cells #[.int .i64 0, .int .i64 0] 202)).cell? ⟨w.heap.size, 1, none⟩ = some (.int .i64 p) := by simp
  have s2 : ((w.alloc (.cells #[.string s, .int .i64 (p), .int .i64 (n), .bool v, .bool c] 206)).alloc (.cells #[.int .i64 0, .int .i64 0] 202)).cell? ⟨w.heap.size, 2, none⟩ = some (.int .i64 n) := by simp
  have s3 : ((w.alloc (.cells #[.string s, .int .i64 (p), .int .i64 (n), .bool v, .bool c] 206)).alloc (.cells #[.int .i64 0, .int .i64 0] 202)).cell? ⟨w.heap.size, 3, none⟩ = some (.bool v) := by simp
  have s4 : ((w.alloc (.cells #[.string s, .int .i64 (p), .int .i64 (n), .bool v, .bool c] 206)).alloc (.cells #[.int .i64 0, .int .i64 0] 202)).cell? ⟨w.heap.size, 4, none⟩ = some (.bool c) := by simp
  have RB : Two (((w.alloc (.cells #[.string s, .int .i64 (p), .int .i64 (n), .bool v, .bool c] 206)).alloc (.cells #[.int .i64 0, .int .i64 0] 202))) (w.heap.size + 1) 0 0 := qN
  go_wp2_with fail
  go_region_held3 (fun ww => ww.cell? ⟨w.heap.size, 0, none⟩ = some (.string s) ∧ ww.cell? ⟨w.heap.size, 1, none⟩ = some (.int .i64 p) ∧ ww.cell? ⟨w.heap.size, 2, none⟩ = some (.int .i64 n) ∧ ww.cell? ⟨w.heap.size, 3, none⟩ = some (.bool v) ∧ ww.cell? ⟨w.heap.size, 4, none⟩ = some (.bool c)) (exact qK) (first | (go_at_call 246; refine (HEnd.out _).mono ?_; rintro r1 w1 ⟨rfl, h1⟩; obtain ⟨hc1, hf1, hz1⟩ := qb h1; (try simp at hz1); (try have ⟨hl1_0, hk1_0⟩ := qL w.heap.size w1.heap.size); (try have ⟨hl1_1, hk1_1⟩ := qL (w.heap.size + 1 + 1) w1.heap.size); (try have ⟨hl1_2, hk1_2⟩ := qL w1.heap.size w1.heap.size); have RB1 : Two w1 (w.heap.size + 1) (0) (0) := qTw; have ⟨RB1_0, RB1_1, RB1_z, RB1_l⟩ := RB1) | (go_at_call 195; refine (HLast.out _).mono ?_; rintro r2 w2 ⟨rfl, h2⟩; obtain ⟨hc2, hf2, hz2⟩ := qb h2; (try simp at hz2); (try have ⟨hl2_0, hk2_0⟩ := qL w.heap.size w2.heap.size); (try have ⟨hl2_1, hk2_1⟩ := qL (w.heap.size + 1 + 1) w2.heap.size); (try have ⟨hl2_2, hk2_2⟩ := qL w1.heap.size w2.heap.size); have RB2 : Two w2 (w.heap.size + 1) (0) (0) := qTw; have ⟨RB2_0, RB2_1, RB2_z, RB2_l⟩ := RB2))
  ·have T : Two (w2.alloc (.cells #[.int .i64 LA, .int .i64 LF] 128)) (w2.heap.size) LA LF := Two.new _ _ _ _
   go_wp2_with fail
   go_region_held3 (fun ww => ww.cell? ⟨w.heap.size, 0, none⟩ = some (.string s) ∧ ww.cell? ⟨w.heap.size, 1, none⟩ = some (.int .i64 p) ∧ ww.cell? ⟨w.heap.size, 2, none⟩ = some (.int .i64 n) ∧ ww.cell? ⟨w.heap.size, 3, none⟩ = some (.bool v) ∧ ww.cell? ⟨w.heap.size, 4, none⟩ = some (.bool c)) (exact qK) (first | (go_at_call 195; refine (HLine0.out _).mono ?_; rintro r3 w3 ⟨rfl, h3⟩; obtain ⟨hc3, hf3, hz3⟩ := qb h3; (try simp at hz3); (try have ⟨hl3_0, hk3_0⟩ := qL w.heap.size w3.heap.size); have T3 : Two w3 (w2.heap.size) (LA) (LF) := qTw; have ⟨T3_0, T3_1, T3_z, T3_l⟩ := T3; have RB3 : Two w3 (w.heap.size + 1) (0) (0) := qTw; have ⟨RB3_0, RB3_1, RB3_z, RB3_l⟩ := RB3) | (go_at_call 241; refine (HN.out _).mono ?_; rintro r4 w4 ⟨rfl, h4⟩; obtain ⟨hc4, hf4, hz4⟩ := qb h4; (try simp at hz4); (try have ⟨hl4_0, hk4_0⟩ := qL w.heap.size w4.heap.size); have T4 : Two w4 (w2.heap.size) (LA) (LF) := qTw; have ⟨T4_0, T4_1, T4_z, T4_l⟩ := T4; have RB4 : Two w4 (w.heap.size + 1) (0) (0) := qTw; have ⟨RB4_0, RB4_1, RB4_z, RB4_l⟩ := RB4) | (go_at_call 180; refine (HD.out _).mono ?_; rintro r5 w5 ⟨rfl, h5⟩; obtain ⟨hc5, hf5, hz5⟩ := qb h5; (try simp at hz5); (try have ⟨hl5_0, hk5_0⟩ := qL w.heap.size w5.heap.size); have T5 : Two w5 (w2.heap.size) (LA) (LF) := qTw; have ⟨T5_0, T5_1, T5_z, T5_l⟩ := T5; have RB5 : Two w5 (w.heap.size + 1) (0) (0) := qTw; have ⟨RB5_0, RB5_1, RB5_z, RB5_l⟩ := RB5))
   clear hc1 hf1 hc2 hf2 hc3 hf3 hc4 hf4 hc5 hf5
   exact qt14
  ·have Tb : Two w2 (w1.heap.size) 0 0 := Two.below (Two.new _ 0 0 _) h2
   have e0 := (Tb).c0
   have e1 := (Tb).c1
   have ez := (Tb).fz
   have el := (Tb).lt
   have T : Two ((w2.setCell ⟨w1.heap.size, 0, none⟩ (.int .i64 LA)).setCell ⟨w1.heap.size, 1, none⟩ (.int .i64 LF)) (w1.heap.size) LA LF := Two.set1 (Two.set0 Tb _) _
   go_wp2_with fail
   go_region_held3 (fun ww => ww.cell? ⟨w.heap.size, 0, none⟩ = some (.string s) ∧ ww.cell? ⟨w.heap.size, 1, none⟩ = some (.int .i64 p) ∧ ww.cell? ⟨w.heap.size, 2, none⟩ = some (.int .i64 n) ∧ ww.cell? ⟨w.heap.size, 3, none⟩ = some (.bool v) ∧ ww.cell? ⟨w.heap.size, 4, none⟩ = some (.bool c)) (exact qK) (first | (go_at_call 195; refine (HLine0.out _).mono ?_; rintro r3 w3 ⟨rfl, h3⟩; obtain ⟨hc3, hf3, hz3⟩ := qb h3; (try simp at hz3); (try have ⟨hl3_0, hk3_0⟩ := qL w.heap.size w3.heap.size); have T3 : Two w3 (w1.heap.size) (LA) (LF) := qTw; have ⟨T3_0, T3_1, T3_z, T3_l⟩ := T3; have RB3 : Two w3 (w.heap.size + 1) (0) (0) := qTw; have ⟨RB3_0, RB3_1, RB3_z, RB3_l⟩ := RB3) | (go_at_call 241; refine (HN.out _).mono ?_; rintro r4 w4 ⟨rfl, h4⟩; obtain ⟨hc4, hf4, hz4⟩ := qb h4; (try simp at hz4); (try have ⟨hl4_0, hk4_0⟩ := qL w.heap.size w4.heap.size); have T4 : Two w4 (w1.heap.size) (LA) (LF) := qTw; have ⟨T4_0, T4_1, T4_z, T4_l⟩ := T4; have RB4 : Two w4 (w.heap.size + 1) (0) (0) := qTw; have ⟨RB4_0, RB4_1, RB4_z, RB4_l⟩ := RB4) | (go_at_call 180; refine (HD.out _).mono ?_; rintro r5 w5 ⟨rfl, h5⟩; obtain ⟨hc5, hf5, hz5⟩ := qb h5; (try simp at hz5); (try have ⟨hl5_0, hk5_0⟩ := qL w.heap.size w5.heap.size); have T5 : Two w5 (w1.heap.size) (LA) (LF) := qTw; have ⟨T5_0, T5_1, T5_z, T5_l⟩ := T5; have RB5 : Two w5 (w.heap.size + 1) (0) (0) := qTw; have ⟨RB5_0, RB5_1, RB5_z, RB5_l⟩ := RB5))
   clear hc1 hf1 hc2 hf2 hc3 hf3 hc4 hf4 hc5 hf5
   exact qt14
  ·have Tb : Two w2 (w.heap.size + 1 + 1) 0 0 := by
    refine Two.below (Two.below (Two.drew ?_) h1) h2
    have := Two.new ((w.alloc (.cells #[.string s, .int .i64 (p), .int .i64 (n), .bool v, .bool c] 206)).alloc (.cells #[.int .i64 0, .int .i64 0] 202)) 0 0 128
    simpa using this
   have e0 := (Tb).c0
   have e1 := (Tb).c1
   have ez := (Tb).fz
   have el := (Tb).lt
   have T : Two ((w2.setCell ⟨w.heap.size + 1 + 1, 0, none⟩ (.int .i64 LA)).setCell ⟨w.heap.size + 1 + 1, 1, none⟩ (.int .i64 LF)) (w.heap.size + 1 + 1) LA LF := Two.set1 (Two.set0 Tb _) _
   go_wp2_with fail
   go_region_held3 (fun ww => ww.cell? ⟨w.heap.size, 0, none⟩ = some (.string s) ∧ ww.cell? ⟨w.heap.size, 1, none⟩ = some (.int .i64 p) ∧ ww.cell? ⟨w.heap.size, 2, none⟩ = some (.int .i64 n) ∧ ww.cell? ⟨w.heap.size, 3, none⟩ = some (.bool v) ∧ ww.cell? ⟨w.heap.size, 4, none⟩ = some (.bool c)) (exact qK) (first | (go_at_call 195; refine (HLine0.out _).mono ?_; rintro r3 w3 ⟨rfl, h3⟩; obtain ⟨hc3, hf3, hz3⟩ := qb h3; (try simp at hz3); (try have ⟨hl3_0, hk3_0⟩ := qL w.heap.size w3.heap.size); have T3 : Two w3 (w.heap.size + 1 + 1) (LA) (LF) := qTw; have ⟨T3_0, T3_1, T3_z, T3_l⟩ := T3; have RB3 : Two w3 (w.heap.size + 1) (0) (0) := qTw; have ⟨RB3_0, RB3_1, RB3_z, RB3_l⟩ := RB3) | (go_at_call 241; refine (HN.out _).mono ?_; rintro r4 w4 ⟨rfl, h4⟩; obtain ⟨hc4, hf4, hz4⟩ := qb h4; (try simp at hz4); (try have ⟨hl4_0, hk4_0⟩ := qL w.heap.size w4.heap.size); have T4 : Two w4 (w.heap.size + 1 + 1) (LA) (LF) := qTw; have ⟨T4_0, T4_1, T4_z, T4_l⟩ := T4; have RB4 : Two w4 (w.heap.size + 1) (0) (0) := qTw; have ⟨RB4_0, RB4_1, RB4_z, RB4_l⟩ := RB4) | (go_at_call 180; refine (HD.out _).mono ?_; rintro r5 w5 ⟨rfl, h5⟩; obtain ⟨hc5, hf5, hz5⟩ := qb h5; (try simp at hz5); (try have ⟨hl5_0, hk5_0⟩ := qL w.heap.size w5.heap.size); have T5 : Two w5 (w.heap.size + 1 + 1) (LA) (LF) := qTw; have ⟨T5_0, T5_1, T5_z, T5_l⟩ := T5; have RB5 : Two w5 (w.heap.size + 1) (0) (0) := qTw; have ⟨RB5_0, RB5_1, RB5_z, RB5_l⟩ := RB5))
   clear hc1 hf1 hc2 hf2 hc3 hf3 hc4 hf4 hc5 hf5
   exact qt14
 ) : P := h
theorem sToNumber_any (s : ByteArray) (p n : Nat) (v c : Bool) (key : Int) (w : World) (hs : s.size ≤ 1000) (hp : p ≤ s.size) (hn : n ≤ 99) (hk : key = 71 ∨ key = 103) :
  qC 207 #[.agg #[.string s, .int .i64 (p), .int .i64 (n), .bool v, .bool c], .int .u8 key] w (.tuple #[.agg #[.int .i64 (wayX (lineWay s p key (max n 1) (decide (0 < n)))), .int .i64 (wayK (lineWay s p key (max n 1) (decide (0 < n))))], .bool (wayZ (lineWay s p key (max n 1) (decide (0 < n))))]) := by
 have HR : Hid (lineWay s p key (max n 1) (decide (0 < n)) = ((frs s (att s (if 0 < n ∨ key = 103 then min (max n 1 - 1) (lns s - 1) else lns s - 1)) : Int), 2, false)) := by
  rw [Hid]
  have hl := lns_pos s
  unfold lineWay lineNo
  rw [if_neg qo, if_neg qo]
  have e : (if (lns s : Int) ≤ (if decide (0 < n) = true then ((max n 1 : Nat) : Int) - 1 else if key = 71 then (lns s : Int) - 1 else 0) then (lns s : Int) - 1 else (if decide (0 < n) = true then ((max n 1 : Nat) : Int) - 1 else if key = 71 then (lns s : Int) - 1 else 0)).toNat = if 0 < n ∨ key = 103 then min (max n 1 - 1) (lns s - 1) else lns s - 1 := by
   by_cases h0 : 0 < n
   ·simp only [h0, decide_true, if_true, true_or]
    split <;> omega
   ·rcases hk with rfl | rfl
    ·simp only [h0, decide_false, Bool.false_eq_true, if_false, if_true, false_or, show ¬ (71 : Int) = 103 by decide]
     split <;> omega
    ·simp only [h0, decide_false, Bool.false_eq_true, if_false, if_true, or_true, show ¬ (103 : Int) = 71 by decide]
     split <;> omega
  rw [e]
 rw [HR.out, wayX_f, wayK_f, wayZ_f]
 clear HR
 have hl := lns_pos s
 have hlast := (att_in (s := s) (m := lns s - 1) qo).1
 have HLast : qH 195 #[.string s, .int .i64 s.size] (.agg #[.int .i64 (att s (lns s - 1)), .int .i64 (fin s (att s (lns s - 1)))]) := by
  intro ww
  have := tLine_any s s.size s.size ww hs rfl (Nat.le_refl _)
  rw [fin_eq (Nat.le_refl _), beg_eq (Nat.le_refl _), show lin s s.size = lns s - 1 by unfold lns; omega] at this
  exact this
 have HLine0 : qH 195 #[.string s, .int .i64 0] (.agg #[.int .i64 (att s 0), .int .i64 (fin s (att s 0))]) := by
  intro ww
  exact tLine_any s 0 0 ww hs rfl (Nat.zero_le _)
 have HN : qH 241 #[.agg #[.string s, .int .i64 (p), .int .i64 (n), .bool v, .bool c]] (.int .i64 ((max n 1 : Nat) : Int)) := by
  exact qt26
 have HD : qH 180 #[.string s, .agg #[.int .i64 (att s 0), .int .i64 (fin s (att s 0))], .int .i64 (((max n 1 : Nat) : Int) - 1), .int .i64 1] (.tuple #[.agg #[.int .i64 (att s (min (max n 1 - 1) (lns s - 1))), .int .i64 (fin s (att s (min (max n 1 - 1) (lns s - 1))))], .int .i64 ((min (max n 1 - 1) (lns s - 1) : Nat) : Int)]) := by
  intro ww
  have := tFurther_down s _ _ (((max n 1 : Nat) : Int) - 1) 1 0 (max n 1 - 1) ww hs qo rfl rfl qo rfl qo
  rw [Nat.zero_add, Nat.sub_zero] at this
  exact this
 have HEnd : qH 246 #[.string s] (.int .i64 s.size) := by
  intro ww
  refine (tEnd_any s ww).mono ?_
  rintro e w' ⟨rfl, rfl⟩
  exact ⟨rfl, Below.refl _ _⟩
 have hN2 : max n 1 ≤ 99 := by omega
 have hN1 : 1 ≤ max n 1 := by omega
 have hm2 : min (max n 1 - 1) (lns s - 1) < lns s := by omega
 have HF : ∀ m, m < lns s → qH 243 #[.string s, .agg #[.int .i64 (att s m), .int .i64 (fin s (att s m))]] (.int .i64 (frs s (att s m))) := by
  intro m hm ww
  exact tFirst_any s _ _ (att s m) ww hs (att_in hm).1 (by rw [beg_att hm]) rfl
 by_cases hc : 0 < n ∨ key = 103
 ·have HF := HF _ hm2
  rw [if_pos hc]
  generalize min (max n 1 - 1) (lns s - 1) = M at *
  generalize max n 1 = N at *
  generalize frs s (att s M) = X at *
  generalize fin s (att s M) = MF at *
  generalize att s M = MA at *
  generalize fin s (att s 0) = ZF at *
  generalize att s 0 = ZA at *
  generalize fin s (att s (lns s - 1)) = LF at *
  generalize att s (lns s - 1) = LA at *
  have hw : IntKind.i64.wrap ((N : Int) - 1) = (N : Int) - 1 := by rw [IntKind.wrap_i64]; omega
  by_cases h0 : 0 < n
  ·have h0' : (0 : Int) < (n : Int) := by omega
   clear hc hk
   exact qt2
  ·have h0' : ((0 : Int) < (n : Int)) = False := by simp; omega
   have hkey : key = 103 := by omega
   clear hc hk
   subst hkey
   exact qt2
 ·have HF := HF (lns s - 1) qo
  rw [if_neg hc]
  clear HD HLine0 hm2
  generalize frs s (att s (lns s - 1)) = X at *
  generalize fin s (att s (lns s - 1)) = LF at *
  generalize att s (lns s - 1) = LA at *
  have h0' : ((0 : Int) < (n : Int)) = False := by simp; omega
  have hkey : key = 71 := by omega
  have h0 : ¬ 0 < n := by omega
  clear hc hk
  subst hkey
  go_enter func207, ntmps207
  have s0 : ((w.alloc (.cells #[.string s, .int .i64 (p), .int .i64 (n), .bool v, .bool c] 206)).alloc (.cells #[.int .i64 0, .int .i64 0] 202)).cell? ⟨w.heap.size, 0, none⟩ = some (.string s) := by simp
  have s1 : ((w.alloc (.cells #[.string s, .int .i64 (p), .int .i64 (n), .bool v, .bool c] 206)).alloc (.cells #[.int .i64 0, .int .i64 0] 202)).cell? ⟨w.heap.size, 1, none⟩ = some (.int .i64 p) := by simp
  have s2 : ((w.alloc (.cells #[.string s, .int .i64 (p), .int .i64 (n), .bool v, .bool c] 206)).alloc (.cells #[.int .i64 0, .int .i64 0] 202)).cell? ⟨w.heap.size, 2, none⟩ = some (.int .i64 n) := by simp
  have s3 : ((w.alloc (.cells #[.string s, .int .i64 (p), .int .i64 (n), .bool v, .bool c] 206)).alloc (.cells #[.int .i64 0, .int .i64 0] 202)).cell? ⟨w.heap.size, 3, none⟩ = some (.bool v) := by simp
  have s4 : ((w.alloc (.cells #[.string s, .int .i64 (p), .int .i64 (n), .bool v, .bool c] 206)).alloc (.cells #[.int .i64 0, .int .i64 0] 202)).cell? ⟨w.heap.size, 4, none⟩ = some (.bool c) := by simp
  have RB : Two (((w.alloc (.cells #[.string s, .int .i64 (p), .int .i64 (n), .bool v, .bool c] 206)).alloc (.cells #[.int .i64 0, .int .i64 0] 202))) (w.heap.size + 1) 0 0 := qN
  go_wp2_with fail
  go_region_held3 (fun ww => ww.cell? ⟨w.heap.size, 0, none⟩ = some (.string s) ∧ ww.cell? ⟨w.heap.size, 1, none⟩ = some (.int .i64 p) ∧ ww.cell? ⟨w.heap.size, 2, none⟩ = some (.int .i64 n) ∧ ww.cell? ⟨w.heap.size, 3, none⟩ = some (.bool v) ∧ ww.cell? ⟨w.heap.size, 4, none⟩ = some (.bool c)) (exact qK) (first | (go_at_call 246; refine (HEnd.out _).mono ?_; rintro r1 w1 ⟨rfl, h1⟩; obtain ⟨hc1, hf1, hz1⟩ := qb h1; (try simp at hz1); (try have ⟨hl1_0, hk1_0⟩ := qL w.heap.size w1.heap.size); (try have ⟨hl1_1, hk1_1⟩ := qL (w.heap.size + 1 + 1) w1.heap.size); (try have ⟨hl1_2, hk1_2⟩ := qL w1.heap.size w1.heap.size); have RB1 : Two w1 (w.heap.size + 1) (0) (0) := qTw; have ⟨RB1_0, RB1_1, RB1_z, RB1_l⟩ := RB1) | (go_at_call 195; refine (HLast.out _).mono ?_; rintro r2 w2 ⟨rfl, h2⟩; obtain ⟨hc2, hf2, hz2⟩ := qb h2; (try simp at hz2); (try have ⟨hl2_0, hk2_0⟩ := qL w.heap.size w2.heap.size); (try have ⟨hl2_1, hk2_1⟩ := qL (w.heap.size + 1 + 1) w2.heap.size); (try have ⟨hl2_2, hk2_2⟩ := qL w1.heap.size w2.heap.size); have RB2 : Two w2 (w.heap.size + 1) (0) (0) := qTw; have ⟨RB2_0, RB2_1, RB2_z, RB2_l⟩ := RB2))
  ·clear hc1 hf1 hc2 hf2
   exact qt14
  ·have Tb : Two w2 (w1.heap.size) 0 0 := Two.below (Two.new _ 0 0 _) h2
   have e0 := (Tb).c0
   have e1 := (Tb).c1
   have ez := (Tb).fz
   have el := (Tb).lt
   clear hc1 hf1 hc2 hf2
   exact qt14
  ·have Tb : Two w2 (w.heap.size + 1 + 1) 0 0 := by
    refine Two.below (Two.below (Two.drew ?_) h1) h2
    have := Two.new ((w.alloc (.cells #[.string s, .int .i64 (p), .int .i64 (n), .bool v, .bool c] 206)).alloc (.cells #[.int .i64 0, .int .i64 0] 202)) 0 0 128
    simpa using this
   have e0 := (Tb).c0
   have e1 := (Tb).c1
   have ez := (Tb).fz
   have el := (Tb).lt
   clear hc1 hf1 hc2 hf2
   exact qt14
