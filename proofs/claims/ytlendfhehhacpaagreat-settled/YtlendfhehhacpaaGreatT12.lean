/- A part. -/
import Derived.Test.YtlendfhehhacpaaGreatT10
import Derived.Deep.LoopGhost
import Derived.WalkMore
set_option linter.unusedVariables false
set_option linter.unusedSimpArgs false
set_option maxRecDepth 100000
set_option maxHeartbeats 8000000
namespace Go.Proofs.YtlendfhehhacpaaGreat
open Go.RowKit Nib Tryz
theorem qt82 {P : Prop} (h : P := by
  generalize beg s p = B at *
  have : (if max (A : Int) ((F : Int) - 1) < (A : Int) + p - B then max (A : Int) ((F : Int) - 1) else (A : Int) + p - B) = min ((A : Int) + ((p : Int) - B)) (max (A : Int) ((F : Int) - 1)) := by split <;> omega
  rw [this]
 ) : P := h
theorem sToLine_j (s : ByteArray) (p n : Nat) (v c given : Bool) (w : World) (hs : s.size ≤ 1000) (hp : p ≤ s.size) (hn : n ≤ 99) :
  qC 206 #[.agg #[.string s, .int .i64 (p), .int .i64 (n), .bool v, .bool c], .int .u8 106] w (.tuple #[.agg #[.int .i64 (wayX (lineWay s p 106 (max n 1) given)), .int .i64 (wayK (lineWay s p 106 (max n 1) given))], .bool (wayZ (lineWay s p 106 (max n 1) given))]) := by
 have hm := lin_lt hp
 refine sToLine_gen s p n v c 106 1 w _ (min (lin s p + max n 1) (lns s - 1)) (min (max n 1) (lns s - 1 - lin s p)) (max n 1) hs hp hn rfl qo (Or.inl ⟨rfl, rfl⟩) ?_ ?_
 ·intro ww
  rw [fin_eq hp, beg_eq hp]
  exact tFurther_down s _ _ _ _ (lin s p) (max n 1) ww hs hm rfl rfl rfl rfl qo
 ·rw [Hid]
  unfold lineWay lineTo
  rw [if_pos rfl]
  by_cases h : (lns s : Int) ≤ (lin s p : Int) + (max n 1 : Nat)
  ·rw [if_pos (Or.inr h), if_pos qo]
  ·have hx : ¬ ((min (max n 1) (lns s - 1 - lin s p) : Nat) : Int) < ((max n 1 : Nat) : Int) := by omega
   rw [if_neg qo]
   simp only [hx, if_false]
   have e1 : ((lin s p : Int) + (max n 1 : Nat)).toNat = lin s p + max n 1 := by omega
   have e2 : min (lin s p + max n 1) (lns s - 1) = lin s p + max n 1 := by omega
   have hb := beg_le s p
   rw [e1, e2, lst_max, beg_att qo]
   generalize fin s (att s (lin s p + max n 1)) = F
   generalize att s (lin s p + max n 1) = A
   exact qt82
theorem sToLine_k (s : ByteArray) (p n : Nat) (v c given : Bool) (w : World) (hs : s.size ≤ 1000) (hp : p ≤ s.size) (hn : n ≤ 99) :
  qC 206 #[.agg #[.string s, .int .i64 (p), .int .i64 (n), .bool v, .bool c], .int .u8 107] w (.tuple #[.agg #[.int .i64 (wayX (lineWay s p 107 (max n 1) given)), .int .i64 (wayK (lineWay s p 107 (max n 1) given))], .bool (wayZ (lineWay s p 107 (max n 1) given))]) := by
 have hm := lin_lt hp
 refine sToLine_gen s p n v c 107 (-1) w _ (lin s p - max n 1) (min (max n 1) (lin s p)) (max n 1) hs hp hn rfl qo (Or.inr ⟨rfl, rfl⟩) ?_ ?_
 ·intro ww
  rw [fin_eq hp, beg_eq hp]
  exact tFurther_up s _ _ _ _ (lin s p) (max n 1) ww hs hm rfl rfl rfl rfl qo
 ·rw [Hid]
  unfold lineWay lineTo
  rw [if_neg qd, if_pos rfl]
  by_cases h : (lin s p : Int) - (max n 1 : Nat) < 0
  ·rw [if_pos (Or.inl h), if_pos qo]
  ·have hx : ¬ ((min (max n 1) (lin s p) : Nat) : Int) < ((max n 1 : Nat) : Int) := by omega
   rw [if_neg qo]
   simp only [hx, if_false]
   have e1 : ((lin s p : Int) - (max n 1 : Nat)).toNat = lin s p - max n 1 := by omega
   have hb := beg_le s p
   rw [e1, lst_max, beg_att qo]
   generalize fin s (att s (lin s p - max n 1)) = F
   generalize att s (lin s p - max n 1) = A
   exact qt82
theorem qt19 {P : Prop} (h : P := by
  go_wp2_with fail
  refine (HF.out _).mono ?_
  rintro r6 w6 ⟨rfl, h6⟩
  obtain ⟨hc6, hf6, hz6⟩ := qb h6
  (try simp at hz6)
  have RB6 : Two w6 (w.heap.size + 1) (0) (0) := qTw
  have ⟨RB6_0, RB6_1, RB6_z, RB6_l⟩ := RB6
  go_wp2
  all_goals
   first
    | (exact qV (.tuple #[.agg #[.int .i64 X, .int .i64 2], .bool true]) (by simp [results, results207, go_sem, RB6_0, RB6_1, RB6_z, RB6_l]) rfl)
 ) : P := h
theorem qt2 {P : Prop} (h : P := by
  go_enter func207, ntmps207
  have s0 : ((w.alloc (.cells #[.string s, .int .i64 (p), .int .i64 (n), .bool v, .bool c] 206)).alloc (.cells #[.int .i64 0, .int .i64 0] 202)).cell? ⟨w.heap.size, 0, none⟩ = some (.string s) := by simp
  have s1 : ((w.alloc (.cells #[.string s, .int .i64 (p), .int .i64 (n), .bool v, .bool c] 206)).alloc (.cells #[.int .i64 0, .int .i64 0] 202)).cell? ⟨w.heap.size, 1, none⟩ = some (.int .i64 p) := by simp
  have s2 : ((w.alloc (.cells #[.string s, .int .i64 (p), .int .i64 (n), .bool v, .bool c] 206)).alloc (.cells #[.int .i64 0, .int .i64 0] 202)).cell? ⟨w.heap.size, 2, none⟩ = some (.int .i64 n) := by simp
  have s3 : ((w.alloc (.cells #[.string s, .int .i64 (p), .int .i64 (n), .bool v, .bool c] 206)).alloc (.cells #[.int .i64 0, .int .i64 0] 202)).cell? ⟨w.heap.size, 3, none⟩ = some (.bool v) := by simp
  have s4 : ((w.alloc (.cells #[.string s, .int .i64 (p), .int .i64 (n), .bool v, .bool c] 206)).alloc (.cells #[.int .i64 0, .int .i64 0] 202)).cell? ⟨w.heap.size, 4, none⟩ = some (.bool c) := by simp
  have RB : Two (((w.alloc (.cells #[.string s, .int .i64 (p), .int .i64 (n), .bool v, .bool c] 206)).alloc (.cells #[.int .i64 0, .int .i64 0] 202))) (w.heap.size + 1) 0 0 := qN
  go_wp2_with fail
  go_region_held3 (fun ww => ww.cell? ⟨w.heap.size, 0, none⟩ = some (.string s) ∧ ww.cell? ⟨w.heap.size, 1, none⟩ = some (.int .i64 p) ∧ ww.cell? ⟨w.heap.size, 2, none⟩ = some (.int .i64 n) ∧ ww.cell? ⟨w.heap.size, 3, none⟩ = some (.bool v) ∧ ww.cell? ⟨w.heap.size, 4, none⟩ = some (.bool c)) (exact qK) (first | (go_at_call 246; refine (HEnd.out _).mono ?_; rintro r1 w1 ⟨rfl, h1⟩; obtain ⟨hc1, hf1, hz1⟩ := qb h1; (try simp at hz1); (try have ⟨hl1_0, hk1_0⟩ := qL w.heap.size w1.heap.size); (try have ⟨hl1_1, hk1_1⟩ := qL (w.heap.size + 1 + 1) w1.heap.size); (try have ⟨hl1_2, hk1_2⟩ := qL w1.heap.size w1.heap.size); have RB1 : Two w1 (w.heap.size + 1) (0) (0) := qTw; have ⟨RB1_0, RB1_1, RB1_z, RB1_l⟩ := RB1) | (go_at_call 195; refine (HLast.out _).mono ?_; rintro r2 w2 ⟨rfl, h2⟩; obtain ⟨hc2, hf2, hz2⟩ := qb h2; (try simp at hz2); (try have ⟨hl2_0, hk2_0⟩ := qL w.heap.size w2.heap.size); (try have ⟨hl2_1, hk2_1⟩ := qL (w.heap.size + 1 + 1) w2.heap.size); (try have ⟨hl2_2, hk2_2⟩ := qL w1.heap.size w2.heap.size); have RB2 : Two w2 (w.heap.size + 1) (0) (0) := qTw; have ⟨RB2_0, RB2_1, RB2_z, RB2_l⟩ := RB2))
  ·have T : Two (w2.alloc (.cells #[.int .i64 LA, .int .i64 LF] 128)) (w2.heap.size) LA LF := Two.new _ _ _ _
   go_wp2_with fail
   go_region_held3 (fun ww => ww.cell? ⟨w.heap.size, 0, none⟩ = some (.string s) ∧ ww.cell? ⟨w.heap.size, 1, none⟩ = some (.int .i64 p) ∧ ww.cell? ⟨w.heap.size, 2, none⟩ = some (.int .i64 n) ∧ ww.cell? ⟨w.heap.size, 3, none⟩ = some (.bool v) ∧ ww.cell? ⟨w.heap.size, 4, none⟩ = some (.bool c)) (exact qK) (first | (go_at_call 195; refine (HLine0.out _).mono ?_; rintro r3 w3 ⟨rfl, h3⟩; obtain ⟨hc3, hf3, hz3⟩ := qb h3; (try simp at hz3); (try have ⟨hl3_0, hk3_0⟩ := qL w.heap.size w3.heap.size); have T3 : Two w3 (w2.heap.size) (LA) (LF) := qTw; have ⟨T3_0, T3_1, T3_z, T3_l⟩ := T3; have RB3 : Two w3 (w.heap.size + 1) (0) (0) := qTw; have ⟨RB3_0, RB3_1, RB3_z, RB3_l⟩ := RB3) | (go_at_call 241; refine (HN.out _).mono ?_; rintro r4 w4 ⟨rfl, h4⟩; obtain ⟨hc4, hf4, hz4⟩ := qb h4; (try simp at hz4); (try have ⟨hl4_0, hk4_0⟩ := qL w.heap.size w4.heap.size); have T4 : Two w4 (w2.heap.size) (LA) (LF) := qTw; have ⟨T4_0, T4_1, T4_z, T4_l⟩ := T4; have RB4 : Two w4 (w.heap.size + 1) (0) (0) := qTw; have ⟨RB4_0, RB4_1, RB4_z, RB4_l⟩ := RB4) | (go_at_call 180; refine (HD.out _).mono ?_; rintro r5 w5 ⟨rfl, h5⟩; obtain ⟨hc5, hf5, hz5⟩ := qb h5; (try simp at hz5); (try have ⟨hl5_0, hk5_0⟩ := qL w.heap.size w5.heap.size); have T5 : Two w5 (w2.heap.size) (LA) (LF) := qTw; have ⟨T5_0, T5_1, T5_z, T5_l⟩ := T5; have RB5 : Two w5 (w.heap.size + 1) (0) (0) := qTw; have ⟨RB5_0, RB5_1, RB5_z, RB5_l⟩ := RB5))
   clear hc1 hf1 hc2 hf2 hc3 hf3 hc4 hf4 hc5 hf5
   exact qt19
  ·have Tb : Two w2 (w1.heap.size) 0 0 := Two.below (Two.new _ 0 0 _) h2
   have e0 := (Tb).c0
   have e1 := (Tb).c1
   have ez := (Tb).fz
   have el := (Tb).lt
   have T : Two ((w2.setCell ⟨w1.heap.size, 0, none⟩ (.int .i64 LA)).setCell ⟨w1.heap.size, 1, none⟩ (.int .i64 LF)) (w1.heap.size) LA LF := Two.set1 (Two.set0 Tb _) _
   go_wp2_with fail
   go_region_held3 (fun ww => ww.cell? ⟨w.heap.size, 0, none⟩ = some (.string s) ∧ ww.cell? ⟨w.heap.size, 1, none⟩ = some (.int .i64 p) ∧ ww.cell? ⟨w.heap.size, 2, none⟩ = some (.int .i64 n) ∧ ww.cell? ⟨w.heap.size, 3, none⟩ = some (.bool v) ∧ ww.cell? ⟨w.heap.size, 4, none⟩ = some (.bool c)) (exact qK) (first | (go_at_call 195; refine (HLine0.out _).mono ?_; rintro r3 w3 ⟨rfl, h3⟩; obtain ⟨hc3, hf3, hz3⟩ := qb h3; (try simp at hz3); (try have ⟨hl3_0, hk3_0⟩ := qL w.heap.size w3.heap.size); have T3 : Two w3 (w1.heap.size) (LA) (LF) := qTw; have ⟨T3_0, T3_1, T3_z, T3_l⟩ := T3; have RB3 : Two w3 (w.heap.size + 1) (0) (0) := qTw; have ⟨RB3_0, RB3_1, RB3_z, RB3_l⟩ := RB3) | (go_at_call 241; refine (HN.out _).mono ?_; rintro r4 w4 ⟨rfl, h4⟩; obtain ⟨hc4, hf4, hz4⟩ := qb h4; (try simp at hz4); (try have ⟨hl4_0, hk4_0⟩ := qL w.heap.size w4.heap.size); have T4 : Two w4 (w1.heap.size) (LA) (LF) := qTw; have ⟨T4_0, T4_1, T4_z, T4_l⟩ := T4; have RB4 : Two w4 (w.heap.size + 1) (0) (0) := qTw; have ⟨RB4_0, RB4_1, RB4_z, RB4_l⟩ := RB4) | (go_at_call 180; refine (HD.out _).mono ?_; rintro r5 w5 ⟨rfl, h5⟩; obtain ⟨hc5, hf5, hz5⟩ := qb h5; (try simp at hz5); (try have ⟨hl5_0, hk5_0⟩ := qL w.heap.size w5.heap.size); have T5 : Two w5 (w1.heap.size) (LA) (LF) := qTw; have ⟨T5_0, T5_1, T5_z, T5_l⟩ := T5; have RB5 : Two w5 (w.heap.size + 1) (0) (0) := qTw; have ⟨RB5_0, RB5_1, RB5_z, RB5_l⟩ := RB5))
   clear hc1 hf1 hc2 hf2 hc3 hf3 hc4 hf4 hc5 hf5
   exact qt19
  ·have Tb : Two w2 (w.heap.size + 1 + 1) 0 0 := by
    refine Two.below (Two.below (Two.drew ?_) h1) h2
    have := Two.new ((w.alloc (.cells #[.string s, .int .i64 (p), .int .i64 (n), .bool v, .bool c] 206)).alloc (.cells #[.int .i64 0, .int .i64 0] 202)) 0 0 128
    simpa using this
   have e0 := (Tb).c0
   have e1 := (Tb).c1
   have ez := (Tb).fz
   have el := (Tb).lt
   have T : Two ((w2.setCell ⟨w.heap.size + 1 + 1, 0, none⟩ (.int .i64 LA)).setCell ⟨w.heap.size + 1 + 1, 1, none⟩ (.int .i64 LF)) (w.heap.size + 1 + 1) LA LF := Two.set1 (Two.set0 Tb _) _
   go_wp2_with fail
   go_region_held3 (fun ww => ww.cell? ⟨w.heap.size, 0, none⟩ = some (.string s) ∧ ww.cell? ⟨w.heap.size, 1, none⟩ = some (.int .i64 p) ∧ ww.cell? ⟨w.heap.size, 2, none⟩ = some (.int .i64 n) ∧ ww.cell? ⟨w.heap.size, 3, none⟩ = some (.bool v) ∧ ww.cell? ⟨w.heap.size, 4, none⟩ = some (.bool c)) (exact qK) (first | (go_at_call 195; refine (HLine0.out _).mono ?_; rintro r3 w3 ⟨rfl, h3⟩; obtain ⟨hc3, hf3, hz3⟩ := qb h3; (try simp at hz3); (try have ⟨hl3_0, hk3_0⟩ := qL w.heap.size w3.heap.size); have T3 : Two w3 (w.heap.size + 1 + 1) (LA) (LF) := qTw; have ⟨T3_0, T3_1, T3_z, T3_l⟩ := T3; have RB3 : Two w3 (w.heap.size + 1) (0) (0) := qTw; have ⟨RB3_0, RB3_1, RB3_z, RB3_l⟩ := RB3) | (go_at_call 241; refine (HN.out _).mono ?_; rintro r4 w4 ⟨rfl, h4⟩; obtain ⟨hc4, hf4, hz4⟩ := qb h4; (try simp at hz4); (try have ⟨hl4_0, hk4_0⟩ := qL w.heap.size w4.heap.size); have T4 : Two w4 (w.heap.size + 1 + 1) (LA) (LF) := qTw; have ⟨T4_0, T4_1, T4_z, T4_l⟩ := T4; have RB4 : Two w4 (w.heap.size + 1) (0) (0) := qTw; have ⟨RB4_0, RB4_1, RB4_z, RB4_l⟩ := RB4) | (go_at_call 180; refine (HD.out _).mono ?_; rintro r5 w5 ⟨rfl, h5⟩; obtain ⟨hc5, hf5, hz5⟩ := qb h5; (try simp at hz5); (try have ⟨hl5_0, hk5_0⟩ := qL w.heap.size w5.heap.size); have T5 : Two w5 (w.heap.size + 1 + 1) (LA) (LF) := qTw; have ⟨T5_0, T5_1, T5_z, T5_l⟩ := T5; have RB5 : Two w5 (w.heap.size + 1) (0) (0) := qTw; have ⟨RB5_0, RB5_1, RB5_z, RB5_l⟩ := RB5))
   clear hc1 hf1 hc2 hf2 hc3 hf3 hc4 hf4 hc5 hf5
   exact qt19
 ) : P := h
theorem sToNumber_any (s : ByteArray) (p n : Nat) (v c : Bool) (key : Int) (w : World) (hs : s.size ≤ 1000) (hp : p ≤ s.size) (hn : n ≤ 99) (hk : key = 71 ∨ key = 103) :
  qC 207 #[.agg #[.string s, .int .i64 (p), .int .i64 (n), .bool v, .bool c], .int .u8 key] w (.tuple #[.agg #[.int .i64 (wayX (lineWay s p key (max n 1) (decide (0 < n)))), .int .i64 (wayK (lineWay s p key (max n 1) (decide (0 < n))))], .bool (wayZ (lineWay s p key (max n 1) (decide (0 < n))))]) := by
 have HR : Hid (lineWay s p key (max n 1) (decide (0 < n)) = ((frs s (att s (if 0 < n ∨ key = 103 then min (max n 1 - 1) (lns s - 1) else lns s - 1)) : Int), 2, false)) := by
  rw [Hid]
  have hl := lns_pos s
  unfold lineWay lineNo
  rw [if_neg qo, if_neg qo]
  have e : (if (lns s : Int) ≤ (if decide (0 < n) = true then ((max n 1 : Nat) : Int) - 1 else if key = 71 then (lns s : Int) - 1 else 0) then (lns s : Int) - 1 else (if decide (0 < n) = true then ((max n 1 : Nat) : Int) - 1 else if key = 71 then (lns s : Int) - 1 else 0)).toNat = if 0 < n ∨ key = 103 then min (max n 1 - 1) (lns s - 1) else lns s - 1 := by
   by_cases h0 : 0 < n
   ·simp only [h0, decide_true, if_true, true_or]
    split <;> omega
   ·rcases hk with rfl | rfl
    ·simp only [h0, decide_false, Bool.false_eq_true, if_false, if_true, false_or, show ¬ (71 : Int) = 103 by decide]
     split <;> omega
    ·simp only [h0, decide_false, Bool.false_eq_true, if_false, if_true, or_true, show ¬ (103 : Int) = 71 by decide]
     split <;> omega
  rw [e]
 rw [HR.out, wayX_f, wayK_f, wayZ_f]
 clear HR
 have hl := lns_pos s
 have hlast := (att_in (s := s) (m := lns s - 1) qo).1
 have HLast : qH 195 #[.string s, .int .i64 s.size] (.agg #[.int .i64 (att s (lns s - 1)), .int .i64 (fin s (att s (lns s - 1)))]) := by
  intro ww
  have := tLine_any s s.size s.size ww hs rfl (Nat.le_refl _)
  rw [fin_eq (Nat.le_refl _), beg_eq (Nat.le_refl _), show lin s s.size = lns s - 1 by unfold lns; omega] at this
  exact this
 have HLine0 : qH 195 #[.string s, .int .i64 0] (.agg #[.int .i64 (att s 0), .int .i64 (fin s (att s 0))]) := by
  intro ww
  exact tLine_any s 0 0 ww hs rfl (Nat.zero_le _)
 have HN : qH 241 #[.agg #[.string s, .int .i64 (p), .int .i64 (n), .bool v, .bool c]] (.int .i64 ((max n 1 : Nat) : Int)) := by
  exact qt45
 have HD : qH 180 #[.string s, .agg #[.int .i64 (att s 0), .int .i64 (fin s (att s 0))], .int .i64 (((max n 1 : Nat) : Int) - 1), .int .i64 1] (.tuple #[.agg #[.int .i64 (att s (min (max n 1 - 1) (lns s - 1))), .int .i64 (fin s (att s (min (max n 1 - 1) (lns s - 1))))], .int .i64 ((min (max n 1 - 1) (lns s - 1) : Nat) : Int)]) := by
  intro ww
  have := tFurther_down s _ _ (((max n 1 : Nat) : Int) - 1) 1 0 (max n 1 - 1) ww hs qo rfl rfl qo rfl qo
  rw [Nat.zero_add, Nat.sub_zero] at this
  exact this
 have HEnd : qH 246 #[.string s] (.int .i64 s.size) := by
  intro ww
  refine (tEnd_any s ww).mono ?_
  rintro e w' ⟨rfl, rfl⟩
  exact ⟨rfl, Below.refl _ _⟩
 have hN2 : max n 1 ≤ 99 := by omega
 have hN1 : 1 ≤ max n 1 := by omega
 have hm2 : min (max n 1 - 1) (lns s - 1) < lns s := by omega
 have HF : ∀ m, m < lns s → qH 243 #[.string s, .agg #[.int .i64 (att s m), .int .i64 (fin s (att s m))]] (.int .i64 (frs s (att s m))) := by
  intro m hm ww
  exact tFirst_any s _ _ (att s m) ww hs (att_in hm).1 (by rw [beg_att hm]) rfl
 by_cases hc : 0 < n ∨ key = 103
 ·have HF := HF _ hm2
  rw [if_pos hc]
  generalize min (max n 1 - 1) (lns s - 1) = M at *
  generalize max n 1 = N at *
  generalize frs s (att s M) = X at *
  generalize fin s (att s M) = MF at *
  generalize att s M = MA at *
  generalize fin s (att s 0) = ZF at *
  generalize att s 0 = ZA at *
  generalize fin s (att s (lns s - 1)) = LF at *
  generalize att s (lns s - 1) = LA at *
  have hw : IntKind.i64.wrap ((N : Int) - 1) = (N : Int) - 1 := by rw [IntKind.wrap_i64]; omega
  by_cases h0 : 0 < n
  ·have h0' : (0 : Int) < (n : Int) := by omega
   clear hc hk
   exact qt2
  ·have h0' : ((0 : Int) < (n : Int)) = False := by simp; omega
   have hkey : key = 103 := by omega
   clear hc hk
   subst hkey
   exact qt2
 ·have HF := HF (lns s - 1) qo
  rw [if_neg hc]
  clear HD HLine0 hm2
  generalize frs s (att s (lns s - 1)) = X at *
  generalize fin s (att s (lns s - 1)) = LF at *
  generalize att s (lns s - 1) = LA at *
  have h0' : ((0 : Int) < (n : Int)) = False := by simp; omega
  have hkey : key = 71 := by omega
  have h0 : ¬ 0 < n := by omega
  clear hc hk
  subst hkey
  go_enter func207, ntmps207
  have s0 : ((w.alloc (.cells #[.string s, .int .i64 (p), .int .i64 (n), .bool v, .bool c] 206)).alloc (.cells #[.int .i64 0, .int .i64 0] 202)).cell? ⟨w.heap.size, 0, none⟩ = some (.string s) := by simp
  have s1 : ((w.alloc (.cells #[.string s, .int .i64 (p), .int .i64 (n), .bool v, .bool c] 206)).alloc (.cells #[.int .i64 0, .int .i64 0] 202)).cell? ⟨w.heap.size, 1, none⟩ = some (.int .i64 p) := by simp
  have s2 : ((w.alloc (.cells #[.string s, .int .i64 (p), .int .i64 (n), .bool v, .bool c] 206)).alloc (.cells #[.int .i64 0, .int .i64 0] 202)).cell? ⟨w.heap.size, 2, none⟩ = some (.int .i64 n) := by simp
  have s3 : ((w.alloc (.cells #[.string s, .int .i64 (p), .int .i64 (n), .bool v, .bool c] 206)).alloc (.cells #[.int .i64 0, .int .i64 0] 202)).cell? ⟨w.heap.size, 3, none⟩ = some (.bool v) := by simp
  have s4 : ((w.alloc (.cells #[.string s, .int .i64 (p), .int .i64 (n), .bool v, .bool c] 206)).alloc (.cells #[.int .i64 0, .int .i64 0] 202)).cell? ⟨w.heap.size, 4, none⟩ = some (.bool c) := by simp
  have RB : Two (((w.alloc (.cells #[.string s, .int .i64 (p), .int .i64 (n), .bool v, .bool c] 206)).alloc (.cells #[.int .i64 0, .int .i64 0] 202))) (w.heap.size + 1) 0 0 := qN
  go_wp2_with fail
  go_region_held3 (fun ww => ww.cell? ⟨w.heap.size, 0, none⟩ = some (.string s) ∧ ww.cell? ⟨w.heap.size, 1, none⟩ = some (.int .i64 p) ∧ ww.cell? ⟨w.heap.size, 2, none⟩ = some (.int .i64 n) ∧ ww.cell? ⟨w.heap.size, 3, none⟩ = some (.bool v) ∧ ww.cell? ⟨w.heap.size, 4, none⟩ = some (.bool c)) (exact qK) (first | (go_at_call 246; refine (HEnd.out _).mono ?_; rintro r1 w1 ⟨rfl, h1⟩; obtain ⟨hc1, hf1, hz1⟩ := qb h1; (try simp at hz1); (try have ⟨hl1_0, hk1_0⟩ := qL w.heap.size w1.heap.size); (try have ⟨hl1_1, hk1_1⟩ := qL (w.heap.size + 1 + 1) w1.heap.size); (try have ⟨hl1_2, hk1_2⟩ := qL w1.heap.size w1.heap.size); have RB1 : Two w1 (w.heap.size + 1) (0) (0) := qTw; have ⟨RB1_0, RB1_1, RB1_z, RB1_l⟩ := RB1) | (go_at_call 195; refine (HLast.out _).mono ?_; rintro r2 w2 ⟨rfl, h2⟩; obtain ⟨hc2, hf2, hz2⟩ := qb h2; (try simp at hz2); (try have ⟨hl2_0, hk2_0⟩ := qL w.heap.size w2.heap.size); (try have ⟨hl2_1, hk2_1⟩ := qL (w.heap.size + 1 + 1) w2.heap.size); (try have ⟨hl2_2, hk2_2⟩ := qL w1.heap.size w2.heap.size); have RB2 : Two w2 (w.heap.size + 1) (0) (0) := qTw; have ⟨RB2_0, RB2_1, RB2_z, RB2_l⟩ := RB2))
  ·clear hc1 hf1 hc2 hf2
   exact qt19
  ·have Tb : Two w2 (w1.heap.size) 0 0 := Two.below (Two.new _ 0 0 _) h2
   have e0 := (Tb).c0
   have e1 := (Tb).c1
   have ez := (Tb).fz
   have el := (Tb).lt
   clear hc1 hf1 hc2 hf2
   exact qt19
  ·have Tb : Two w2 (w.heap.size + 1 + 1) 0 0 := by
    refine Two.below (Two.below (Two.drew ?_) h1) h2
    have := Two.new ((w.alloc (.cells #[.string s, .int .i64 (p), .int .i64 (n), .bool v, .bool c] 206)).alloc (.cells #[.int .i64 0, .int .i64 0] 202)) 0 0 128
    simpa using this
   have e0 := (Tb).c0
   have e1 := (Tb).c1
   have ez := (Tb).fz
   have el := (Tb).lt
   clear hc1 hf1 hc2 hf2
   exact qt19
theorem qt28 {P : Prop} (h : P := by
  have HS : Hid (X = NA) := by rw [Hid, HU.out]; simp
  clear HU
  go_wp2_with fail
  refine (HBs.out _).mono ?_
  rintro r2 w2 ⟨rfl, h2⟩
  obtain ⟨hc2, hf2, hz2⟩ := qb h2
  (try simp at hz2)
  have T2 : Two w2 (w1.heap.size) (JA) (JF) := qTw
  have ⟨T2_0, T2_1, T2_z, T2_l⟩ := T2
  have N : Two (w2.alloc (.cells #[.int .i64 NA, .int .i64 NF] 128)) w2.heap.size NA NF := Two.new _ _ _ _
  go_wp2_with fail
  refine (HE1.out _).mono ?_
  rintro r3 w3 ⟨rfl, h3⟩
  obtain ⟨hc3, hf3, hz3⟩ := qb h3
  (try simp at hz3)
  have T3 : Two w3 (w1.heap.size) (JA) (JF) := qTw
  have ⟨T3_0, T3_1, T3_z, T3_l⟩ := T3
  have N3 : Two w3 (w2.heap.size) (NA) (NF) := qTw
  have ⟨N3_0, N3_1, N3_z, N3_l⟩ := N3
  go_wp2_with fail
  refine (HE2.out _).mono ?_
  rintro r4 w4 ⟨rfl, h4⟩
  obtain ⟨hc4, hf4, hz4⟩ := qb h4
  (try simp at hz4)
  have T4 : Two w4 (w1.heap.size) (JA) (JF) := qTw
  have ⟨T4_0, T4_1, T4_z, T4_l⟩ := T4
  have N4 : Two w4 (w2.heap.size) (NA) (NF) := qTw
  have ⟨N4_0, N4_1, N4_z, N4_l⟩ := N4
  go_wp2
  all_goals
   first
    | (exact qV (.int .i64 NA) (by simp [results, results253, go_sem]) (ret_int (by rw [HS.out])))
 ) : P := h
theorem sParStep_down (s : ByteArray) (p : Nat) (w : World) (hs : s.size ≤ 1000) (hp : p ≤ s.size) :
  qC 253 #[.string s, .int .i64 p, .int .i64 1] w (.int .i64 (parStep s true p)) := by
 have hm := lin_lt hp
 have HL : qH 195 #[.string s, .int .i64 p] (.agg #[.int .i64 (att s (lin s p)), .int .i64 (fin s (att s (lin s p)))]) := by
  intro ww
  have := tLine_any s p p ww hs rfl hp
  rw [fin_eq hp, beg_eq hp] at this
  exact this
 have HX : Hid (parD s (lns s - 1 - lin s p) (lin s p + 1) = parStep s true p) := by rw [Hid]; unfold parStep; rw [if_pos rfl]
 generalize parStep s true p = X at *
 generalize lin s p = m at *
 go_enter func253, ntmps253
 go_wp2_with fail
 refine (HL.out _).mono ?_
 rintro e w1 ⟨rfl, h1⟩
 obtain ⟨hc1, hf1, hz1⟩ := qb h1
 try simp at hz1
 go_wp2
 go_loopw [8, 9] (fun _ _ wr => ∃ j : Nat, m ≤ j ∧ j < lns s ∧ Two wr w1.heap.size (att s j) (fin s (att s j)) ∧ Below w.heap.size w wr ∧ Hid (parD s (lns s - 1 - j) (j + 1) = X)) (fun _ _ wr => s.size + 1 - (intOf ((wr.cell? ⟨w1.heap.size, 0, none⟩).getD undef)).toNat)
 case atStart =>
  refine ⟨m, Nat.le_refl _, hm, Two.new _ _ _ _, ?_, HX⟩
  repeat exact qB
 case round =>
  clear HX
  obtain ⟨j, hj1, hj2, T, hB, hu⟩ := hrel
  have c0 := (T).c0
  have c1 := (T).c1
  have cz := (T).fz
  have cl := (T).lt
  have hz := hB.size
  have ha := (att_in hj2).1
  by_cases hne : j + 1 < lns s
  ·have hnf : fin s (att s j) + 1 = att s (j + 1) := rfl
   have hfg := fin_ge s (att s j)
   have hfl := fin_lt_of hne
   have HE1 : qH 185 #[.agg #[.int .i64 (att s (j + 1)), .int .i64 (fin s (att s (j + 1)))]] (.bool (emp s (att s (j + 1)))) := by
    intro ww; rw [emp_att hne]; exact tIsEmpty_any _ _ ww
   have HE2 : qH 185 #[.agg #[.int .i64 (att s j), .int .i64 (fin s (att s j))]] (.bool (emp s (att s j))) := by
    intro ww; rw [emp_att hj2]; exact tIsEmpty_any _ _ ww
   have HU : Hid (X = if (emp s (att s (j + 1)) && !emp s (att s j)) = true then att s (j + 1) else parD s (lns s - 1 - (j + 1)) (j + 1 + 1)) := by
    rw [Hid, ← hu.out, show lns s - 1 - j = (lns s - 1 - (j + 1)) + 1 by omega]; rfl
   clear hu
   have HBs : qH 223 #[.string s, .agg #[.int .i64 (att s j), .int .i64 (fin s (att s j))], .int .i64 1] (.tuple #[.agg #[.int .i64 (att s (j + 1)), .int .i64 (fin s (att s (j + 1)))], .bool true]) := fun ww => tBeside_down s _ _ _ j ww hs rfl rfl rfl hne
   have hlt1 : att s j < att s (j + 1) := by omega
   have hlt2 : att s (j + 1) ≤ s.size := by omega
   clear hnf
   generalize emp s (att s (j + 1)) = E1 at *
   generalize emp s (att s j) = E2 at *
   generalize hNF : fin s (att s (j + 1)) = NF at *
   generalize hNA : att s (j + 1) = NA at *
   have HNA : Hid (att s (j + 1) = NA) := hNA
   have HNF : Hid (fin s NA = NF) := hNF
   clear hNA hNF
   generalize hJF : fin s (att s j) = JF at *
   generalize hJA : att s j = JA at *
   clear hJF hJA
   cases E1 with
   | false =>
    have HS : Hid (parD s (lns s - 1 - (j + 1)) (j + 1 + 1) = X) := by rw [Hid, HU.out]; simp
    clear HU
    go_wp2_with fail
    refine (HBs.out _).mono ?_
    rintro r2 w2 ⟨rfl, h2⟩
    obtain ⟨hc2, hf2, hz2⟩ := qb h2
    (try simp at hz2)
    have T2 : Two w2 (w1.heap.size) (JA) (JF) := qTw
    have ⟨T2_0, T2_1, T2_z, T2_l⟩ := T2
    have N : Two (w2.alloc (.cells #[.int .i64 NA, .int .i64 NF] 128)) w2.heap.size NA NF := Two.new _ _ _ _
    go_wp2_with fail
    refine (HE1.out _).mono ?_
    rintro r3 w3 ⟨rfl, h3⟩
    obtain ⟨hc3, hf3, hz3⟩ := qb h3
    (try simp at hz3)
    have T3 : Two w3 (w1.heap.size) (JA) (JF) := qTw
    have ⟨T3_0, T3_1, T3_z, T3_l⟩ := T3
    have N3 : Two w3 (w2.heap.size) (NA) (NF) := qTw
    have ⟨N3_0, N3_1, N3_z, N3_l⟩ := N3
    have hNA := HNA.out
    have hNF := HNF.out
    clear hc2 hf2 hc3 hf3
    go_wp2
    go_round
    case rel =>
     refine ⟨j + 1, by omega, hne, ?_, ?_, HS⟩
     ·rw [hNA, hNF]
      exact Two.set1 (Two.set0 T3 _) _
     ·repeat exact qB
    case measure =>
     rw [(Two.set1 (Two.set0 T3 NA) NF).c0, c0]
     simp [intOf] <;> omega
   | true =>
    cases E2 with
    | false =>
     exact qt28
    | true =>
     have HS : Hid (parD s (lns s - 1 - (j + 1)) (j + 1 + 1) = X) := by rw [Hid, HU.out]; simp
     clear HU
     go_wp2_with fail
     refine (HBs.out _).mono ?_
     rintro r2 w2 ⟨rfl, h2⟩
     obtain ⟨hc2, hf2, hz2⟩ := qb h2
     (try simp at hz2)
     have T2 : Two w2 (w1.heap.size) (JA) (JF) := qTw
     have ⟨T2_0, T2_1, T2_z, T2_l⟩ := T2
     have N : Two (w2.alloc (.cells #[.int .i64 NA, .int .i64 NF] 128)) w2.heap.size NA NF := Two.new _ _ _ _
     go_wp2_with fail
     refine (HE1.out _).mono ?_
     rintro r3 w3 ⟨rfl, h3⟩
     obtain ⟨hc3, hf3, hz3⟩ := qb h3
     (try simp at hz3)
     have T3 : Two w3 (w1.heap.size) (JA) (JF) := qTw
     have ⟨T3_0, T3_1, T3_z, T3_l⟩ := T3
     have N3 : Two w3 (w2.heap.size) (NA) (NF) := qTw
     have ⟨N3_0, N3_1, N3_z, N3_l⟩ := N3
     go_wp2_with fail
     refine (HE2.out _).mono ?_
     rintro r4 w4 ⟨rfl, h4⟩
     obtain ⟨hc4, hf4, hz4⟩ := qb h4
     (try simp at hz4)
     have T4 : Two w4 (w1.heap.size) (JA) (JF) := qTw
     have ⟨T4_0, T4_1, T4_z, T4_l⟩ := T4
     have N4 : Two w4 (w2.heap.size) (NA) (NF) := qTw
     have ⟨N4_0, N4_1, N4_z, N4_l⟩ := N4
     have hNA := HNA.out
     have hNF := HNF.out
     clear hc2 hf2 hc3 hf3 hc4 hf4
     go_wp2
     go_round
     case rel =>
      refine ⟨j + 1, by omega, hne, ?_, ?_, HS⟩
      ·rw [hNA, hNF]
       exact Two.set1 (Two.set0 T4 _) _
      ·repeat exact qB
     case measure =>
      rw [(Two.set1 (Two.set0 T4 NA) NF).c0, c0]
      simp [intOf] <;> omega
  ·have HS : Hid (X = s.size) := by
    rw [Hid, ← hu.out, show lns s - 1 - j = 0 by omega]; rfl
   clear hu
   have hF := fin_last (s := s) (m := j) qo
   have HBs : qH 223 #[.string s, .agg #[.int .i64 (att s j), .int .i64 (fin s (att s j))], .int .i64 1] (.tuple #[.agg #[.int .i64 (0), .int .i64 (0)], .bool false]) := fun ww => tBeside_none s _ _ _ ww hs (Or.inl rfl) (fun _ => by omega) (fun h => by omega)
   clear hF
   generalize fin s (att s j) = JF at *
   generalize att s j = JA at *
   go_wp2_with fail
   refine (HBs.out _).mono ?_
   rintro r2 w2 ⟨rfl, h2⟩
   obtain ⟨hc2, hf2, hz2⟩ := qb h2
   (try simp at hz2)
   have T2 : Two w2 (w1.heap.size) (JA) (JF) := qTw
   have ⟨T2_0, T2_1, T2_z, T2_l⟩ := T2
   go_wp2_with fail
   refine (tEnd_any s _).mono ?_
   rintro e w' ⟨rfl, rfl⟩
   go_wp2
   all_goals
    first
     | (exact qV (.int .i64 s.size) (by simp [results, results253, go_sem]) (ret_int (by rw [HS.out])))
theorem sParStep_up (s : ByteArray) (p : Nat) (w : World) (hs : s.size ≤ 1000) (hp : p ≤ s.size) :
  qC 253 #[.string s, .int .i64 p, .int .i64 (-1)] w (.int .i64 (parStep s false p)) := by
 have hm := lin_lt hp
 have HL : qH 195 #[.string s, .int .i64 p] (.agg #[.int .i64 (att s (lin s p)), .int .i64 (fin s (att s (lin s p)))]) := by
  intro ww
  have := tLine_any s p p ww hs rfl hp
  rw [fin_eq hp, beg_eq hp] at this
  exact this
 have HX : Hid (parU s (lin s p) = parStep s false p) := by rw [Hid]; unfold parStep; rw [if_neg qi]
 generalize parStep s false p = X at *
 generalize lin s p = m at *
 go_enter func253, ntmps253
 go_wp2_with fail
 refine (HL.out _).mono ?_
 rintro e w1 ⟨rfl, h1⟩
 obtain ⟨hc1, hf1, hz1⟩ := qb h1
 try simp at hz1
 go_wp2
 go_loopw [8, 9] (fun _ _ wr => ∃ j : Nat, j ≤ m ∧ j < lns s ∧ Two wr w1.heap.size (att s j) (fin s (att s j)) ∧ Below w.heap.size w wr ∧ Hid (parU s j = X)) (fun _ _ wr => (intOf ((wr.cell? ⟨w1.heap.size, 0, none⟩).getD undef)).toNat)
 case atStart =>
  refine ⟨m, Nat.le_refl _, hm, Two.new _ _ _ _, ?_, HX⟩
  repeat exact qB
 case round =>
  clear HX
  obtain ⟨j, hj1, hj2, T, hB, hu⟩ := hrel
  have c0 := (T).c0
  have c1 := (T).c1
  have cz := (T).fz
  have cl := (T).lt
  have hz := hB.size
  have ha := (att_in hj2).1
  by_cases hne : 0 < j
  ·have hne2 : j - 1 < lns s := by omega
   have hnf : fin s (att s (j - 1)) + 1 = att s j := by
    obtain ⟨k, rfl⟩ : ∃ k, j = k + 1 := ⟨j - 1, by omega⟩
    rfl
   have hfg := fin_ge s (att s (j - 1))
   have HE1 : qH 185 #[.agg #[.int .i64 (att s (j - 1)), .int .i64 (fin s (att s (j - 1)))]] (.bool (emp s (att s (j - 1)))) := by
    intro ww; rw [emp_att hne2]; exact tIsEmpty_any _ _ ww
   have HE2 : qH 185 #[.agg #[.int .i64 (att s j), .int .i64 (fin s (att s j))]] (.bool (emp s (att s j))) := by
    intro ww; rw [emp_att hj2]; exact tIsEmpty_any _ _ ww
   have HU : Hid (X = if (emp s (att s (j - 1)) && !emp s (att s j)) = true then att s (j - 1) else parU s (j - 1)) := by
    rw [Hid, ← hu.out]
    obtain ⟨k, rfl⟩ : ∃ k, j = k + 1 := ⟨j - 1, by omega⟩
    rfl
   clear hu
   have HBs : qH 223 #[.string s, .agg #[.int .i64 (att s j), .int .i64 (fin s (att s j))], .int .i64 (-1)] (.tuple #[.agg #[.int .i64 (att s (j - 1)), .int .i64 (fin s (att s (j - 1)))], .bool true]) := fun ww => tBeside_up s _ _ _ j ww hs rfl hj2 rfl hne
   have hlt1 : att s (j - 1) < att s j := by omega
   clear hnf
   generalize emp s (att s (j - 1)) = E1 at *
   generalize emp s (att s j) = E2 at *
   generalize hNF : fin s (att s (j - 1)) = NF at *
   generalize hNA : att s (j - 1) = NA at *
   have HNA : Hid (att s (j - 1) = NA) := hNA
   have HNF : Hid (fin s NA = NF) := hNF
   clear hNA hNF
   generalize hJF : fin s (att s j) = JF at *
   generalize hJA : att s j = JA at *
   clear hJF hJA
   cases E1 with
   | false =>
    have HS : Hid (parU s (j - 1) = X) := by rw [Hid, HU.out]; simp
    clear HU
    go_wp2_with fail
    refine (HBs.out _).mono ?_
    rintro r2 w2 ⟨rfl, h2⟩
    obtain ⟨hc2, hf2, hz2⟩ := qb h2
    (try simp at hz2)
    have T2 : Two w2 (w1.heap.size) (JA) (JF) := qTw
    have ⟨T2_0, T2_1, T2_z, T2_l⟩ := T2
    have N : Two (w2.alloc (.cells #[.int .i64 NA, .int .i64 NF] 128)) w2.heap.size NA NF := Two.new _ _ _ _
    go_wp2_with fail
    refine (HE1.out _).mono ?_
    rintro r3 w3 ⟨rfl, h3⟩
    obtain ⟨hc3, hf3, hz3⟩ := qb h3
    (try simp at hz3)
    have T3 : Two w3 (w1.heap.size) (JA) (JF) := qTw
    have ⟨T3_0, T3_1, T3_z, T3_l⟩ := T3
    have N3 : Two w3 (w2.heap.size) (NA) (NF) := qTw
    have ⟨N3_0, N3_1, N3_z, N3_l⟩ := N3
    have hNA := HNA.out
    have hNF := HNF.out
    clear hc2 hf2 hc3 hf3
    go_wp2
    go_round
    case rel =>
     refine ⟨j - 1, by omega, hne2, ?_, ?_, HS⟩
     ·rw [hNA, hNF]
      exact Two.set1 (Two.set0 T3 _) _
     ·repeat exact qB
    case measure =>
     rw [(Two.set1 (Two.set0 T3 NA) NF).c0, c0]
     simp [intOf] <;> omega
   | true =>
    cases E2 with
    | false =>
     exact qt28
    | true =>
     have HS : Hid (parU s (j - 1) = X) := by rw [Hid, HU.out]; simp
     clear HU
     go_wp2_with fail
     refine (HBs.out _).mono ?_
     rintro r2 w2 ⟨rfl, h2⟩
     obtain ⟨hc2, hf2, hz2⟩ := qb h2
     (try simp at hz2)
     have T2 : Two w2 (w1.heap.size) (JA) (JF) := qTw
     have ⟨T2_0, T2_1, T2_z, T2_l⟩ := T2
     have N : Two (w2.alloc (.cells #[.int .i64 NA, .int .i64 NF] 128)) w2.heap.size NA NF := Two.new _ _ _ _
     go_wp2_with fail
     refine (HE1.out _).mono ?_
     rintro r3 w3 ⟨rfl, h3⟩
     obtain ⟨hc3, hf3, hz3⟩ := qb h3
     (try simp at hz3)
     have T3 : Two w3 (w1.heap.size) (JA) (JF) := qTw
     have ⟨T3_0, T3_1, T3_z, T3_l⟩ := T3
     have N3 : Two w3 (w2.heap.size) (NA) (NF) := qTw
     have ⟨N3_0, N3_1, N3_z, N3_l⟩ := N3
     go_wp2_with fail
     refine (HE2.out _).mono ?_
     rintro r4 w4 ⟨rfl, h4⟩
     obtain ⟨hc4, hf4, hz4⟩ := qb h4
     (try simp at hz4)
     have T4 : Two w4 (w1.heap.size) (JA) (JF) := qTw
     have ⟨T4_0, T4_1, T4_z, T4_l⟩ := T4
     have N4 : Two w4 (w2.heap.size) (NA) (NF) := qTw
     have ⟨N4_0, N4_1, N4_z, N4_l⟩ := N4
     have hNA := HNA.out
     have hNF := HNF.out
     clear hc2 hf2 hc3 hf3 hc4 hf4
     go_wp2
     go_round
     case rel =>
      refine ⟨j - 1, by omega, hne2, ?_, ?_, HS⟩
      ·rw [hNA, hNF]
       exact Two.set1 (Two.set0 T4 _) _
      ·repeat exact qB
     case measure =>
      rw [(Two.set1 (Two.set0 T4 NA) NF).c0, c0]
      simp [intOf] <;> omega
  ·have HS : Hid (X = 0) := by
    rw [Hid, ← hu.out, show j = 0 by omega]; rfl
   clear hu
   have hF : att s j = 0 := by rw [show j = 0 by omega]; rfl
   have HBs : qH 223 #[.string s, .agg #[.int .i64 (att s j), .int .i64 (fin s (att s j))], .int .i64 (-1)] (.tuple #[.agg #[.int .i64 (0), .int .i64 (0)], .bool false]) := fun ww => tBeside_none s _ _ _ ww hs (Or.inr rfl) (fun h => by omega) (fun _ => by omega)
   clear hF
   generalize fin s (att s j) = JF at *
   generalize att s j = JA at *
   go_wp2_with fail
   refine (HBs.out _).mono ?_
   rintro r2 w2 ⟨rfl, h2⟩
   obtain ⟨hc2, hf2, hz2⟩ := qb h2
   (try simp at hz2)
   have T2 : Two w2 (w1.heap.size) (JA) (JF) := qTw
   have ⟨T2_0, T2_1, T2_z, T2_l⟩ := T2
   go_wp2
   all_goals
    first
     | (exact qV (.int .i64 0) (by simp [results, results253, go_sem]) (ret_int (by rw [HS.out]; rfl)))
theorem qt31 {P : Prop} (h : P := by
  go_wp2_with fail
  refine (HL.out _).mono ?_
  rintro r2 w2 ⟨rfl, h2⟩
  obtain ⟨hc2, hf2, hz2⟩ := qb h2
  (try simp at hz2)
  have RB2 : Two w2 (w.heap.size + 1) (0) (0) := qTw
  have ⟨RB2_0, RB2_1, RB2_z, RB2_l⟩ := RB2
  go_wp2_with fail
  refine (HT.out _).mono ?_
  rintro r3 w3 ⟨rfl, h3⟩
  obtain ⟨hc3, hf3, hz3⟩ := qb h3
  (try simp at hz3)
  have RB3 : Two w3 (w.heap.size + 1) (0) (0) := qTw
  have ⟨RB3_0, RB3_1, RB3_z, RB3_l⟩ := RB3
  have F3 := (F.below h2).below h3
  have g0 := F3.c0; have g1 := F3.c1; have g2 := F3.c2; have g3 := F3.c3; have g4 := F3.c4
  clear hc2 hf2 hc3 hf3
  go_wp2_with fail
  refine (HU.out _).mono ?_
  rintro r4 w4 ⟨rfl, h4⟩
  obtain ⟨hc4, hf4, hz4⟩ := qb h4
  (try simp at hz4)
  have RB4 : Two w4 (w.heap.size + 1) (0) (0) := qTw
  have ⟨RB4_0, RB4_1, RB4_z, RB4_l⟩ := RB4
  go_wp2
  all_goals
   first
    | (exact qV (.tuple #[.agg #[.int .i64 (wayX (R)), .int .i64 (wayK (R))], .bool (wayZ (R))]) (by simp [results, results211, go_sem, RB4_0, RB4_1, RB4_z, RB4_l]) rfl)
 ) : P := h
theorem qt74 {P : Prop} (h : P := by
  have ⟨F2_0, F2_1, F2_2, F2_3, F2_4, F2_z, F2_l⟩ := F2
  have RB2 : Two w2 (w.heap.size + 1) (0) (0) := qTw
  have ⟨RB2_0, RB2_1, RB2_z, RB2_l⟩ := RB2
  go_wp2
  go_round
  case rel =>
   refine ⟨k + 1, by omega, by rw [hA], by go_num, F2, RB2, ?_⟩
   repeat exact qB
  case measure => simp [intOf] <;> omega
 ) : P := h
theorem qt34 {P : Prop} (h : P := by
  go_wp2_with fail
  refine (HS.out _).mono ?_
  rintro r2 w2 ⟨rfl, h2⟩
  obtain ⟨hc2, hf2, hz2⟩ := qb h2
  (try simp at hz2)
  have F2 : Five w2 (w.heap.size) s p n v c := qF
  exact qt74
 ) : P := h
theorem sToPar_any (s : ByteArray) (p n : Nat) (v c down : Bool) (d : Int) (w : World) (hs : s.size ≤ 1000) (hp : p ≤ s.size) (hn : n ≤ 99) (hd : d = if down = true then 1 else -1) :
  qC 211 #[.agg #[.string s, .int .i64 (p), .int .i64 (n), .bool v, .bool c], .int .i64 d] w (.tuple #[.agg #[.int .i64 (wayX (((parQ s p (max n 1) down v : Int), 0, (parQ s p (max n 1) down v : Int) == (p : Int)))), .int .i64 (wayK (((parQ s p (max n 1) down v : Int), 0, (parQ s p (max n 1) down v : Int) == (p : Int))))], .bool (wayZ (((parQ s p (max n 1) down v : Int), 0, (parQ s p (max n 1) down v : Int) == (p : Int))))]) := by
 have HP : Hid (∀ (q : Nat), q ≤ s.size → ∀ ww, qC 253 #[.string s, .int .i64 q, .int .i64 d] ww (.int .i64 (parStep s down q))) := by
  intro q hq ww
  cases down with
  | true => rw [hd]; exact sParStep_down s q ww hs hq
  | false => rw [hd]; exact sParStep_up s q ww hs hq
 clear hd
 have HN : qH 241 #[.agg #[.string s, .int .i64 (p), .int .i64 (n), .bool v, .bool c]] (.int .i64 ((max n 1 : Nat) : Int)) := by
  exact qt45
 have hN2 : max n 1 ≤ 99 := by omega
 generalize max n 1 = N at *
 have HU : qH 240 #[.agg #[.string s, .int .i64 (p), .int .i64 (n), .bool v, .bool c], .int .i64 (parQ s p N down v : Nat), .int .i64 0] (.tuple #[.agg #[.int .i64 (wayX (((parQ s p N down v : Int), 0, (parQ s p N down v : Int) == (p : Int)))), .int .i64 (wayK (((parQ s p N down v : Int), 0, (parQ s p N down v : Int) == (p : Int))))], .bool (wayZ (((parQ s p N down v : Int), 0, (parQ s p N down v : Int) == (p : Int))))]) := fun ww => sUnless_any s p n _ 0 v c ww
 generalize (((parQ s p N down v : Nat) : Int), (0 : Int), (((parQ s p N down v : Nat) : Int) == (p : Int))) = R at *
 go_enter func211, ntmps211
 have F : Five ((w.alloc (.cells #[.string s, .int .i64 (p), .int .i64 (n), .bool v, .bool c] 206)).alloc (.cells #[.int .i64 0, .int .i64 0] 202)) w.heap.size s p n v c := Five.alloc (Five.new _ _ _ _ _ _ _) _
 have RB : Two ((w.alloc (.cells #[.string s, .int .i64 (p), .int .i64 (n), .bool v, .bool c] 206)).alloc (.cells #[.int .i64 0, .int .i64 0] 202)) (w.heap.size + 1) 0 0 := qN
 go_wp2_with fail
 refine (HN.out _).mono ?_
 rintro r1 w1 ⟨rfl, h1⟩
 obtain ⟨hc1, hf1, hz1⟩ := qb h1
 (try simp at hz1)
 have F1 : Five w1 (w.heap.size) s p n v c := qF
 have ⟨F1_0, F1_1, F1_2, F1_3, F1_4, F1_z, F1_l⟩ := F1
 have RB1 : Two w1 (w.heap.size + 1) (0) (0) := qTw
 have ⟨RB1_0, RB1_1, RB1_z, RB1_l⟩ := RB1
 go_wp2
 go_loopw [6, 11] (fun q i wr => ∃ k : Nat, k ≤ N ∧ q = .int .i64 (itr (parStep s down) k p : Nat) ∧ i = .int .i64 k ∧ Five wr w.heap.size s p n v c ∧ Two wr (w.heap.size + 1) 0 0 ∧ Below w.heap.size w wr) (fun _ i _ => N - (intOf i).toNat)
 case atStart =>
  refine ⟨0, by omega, rfl, rfl, F1, RB1, ?_⟩
  repeat exact qB
 case round =>
  clear F RB h1 hc1 hf1 F1_0 F1_1 F1_2 F1_3 F1_4 F1_z F1_l RB1_0 RB1_1 RB1_z RB1_l
  obtain ⟨k, hk, rfl, rfl, F, RB, hB⟩ := hrel
  have hq := itr_p_le (down := down) hp k
  have ⟨f0, f1, f2, f3, f4, fz, fl⟩ := F
  have r0 := (RB).c0
  have r1 := (RB).c1
  have rz := (RB).fz
  have rl := (RB).lt
  have hzz := hB.size
  by_cases hlt : k < N
  ·have HS : qH 253 #[.string s, .int .i64 (itr (parStep s down) k p : Nat), .int .i64 d] (.int .i64 (itr (parStep s down) (k + 1) p : Nat)) := fun ww => HP.out _ hq ww
   generalize hA : itr (parStep s down) (k + 1) p = A at *
   exact qt34
  ·have ek : k = N := by omega
   subst ek
   cases v with
   | true =>
    have HV : parQ s p k down true = itr (parStep s down) k p := by unfold parQ; rw [if_pos rfl]
    rw [HV] at HU
    generalize itr (parStep s down) k p = A at *
    go_wp2_with fail
    refine (HU.out _).mono ?_
    rintro r2 w2 ⟨rfl, h2⟩
    obtain ⟨hc2, hf2, hz2⟩ := qb h2
    (try simp at hz2)
    have RB2 : Two w2 (w.heap.size + 1) (0) (0) := qTw
    have ⟨RB2_0, RB2_1, RB2_z, RB2_l⟩ := RB2
    go_wp2
    all_goals
     first
      | (exact qV (.tuple #[.agg #[.int .i64 (wayX (R)), .int .i64 (wayK (R))], .bool (wayZ (R))]) (by simp [results, results211, go_sem, RB2_0, RB2_1, RB2_z, RB2_l]) rfl)
   | false =>
    have HV : ((parQ s p k down false : Nat) : Int) = if ((lst s (itr (parStep s down) k p) : Nat) : Int) < ((itr (parStep s down) k p : Nat) : Int) then ((lst s (itr (parStep s down) k p) : Nat) : Int) else ((itr (parStep s down) k p : Nat) : Int) := by
     unfold parQ; rw [if_neg qi]; unfold clm; split <;> split <;> first | rfl | omega
    rw [HV] at HU
    clear HV
    have hfl := fin_le hq
    have HL : qH 195 #[.string s, .int .i64 (itr (parStep s down) k p : Nat)] (.agg #[.int .i64 (beg s (itr (parStep s down) k p)), .int .i64 (fin s (itr (parStep s down) k p))]) := fun ww => tLine_any s _ _ ww hs rfl hq
    have HT : qH 202 #[.agg #[.int .i64 (beg s (itr (parStep s down) k p)), .int .i64 (fin s (itr (parStep s down) k p))]] (.int .i64 (lst s (itr (parStep s down) k p) : Nat)) := by
     intro ww; rw [lst_max]; exact tLast_any _ _ ww qo
    generalize lst s (itr (parStep s down) k p) = L at *
    generalize beg s (itr (parStep s down) k p) = B at *
    generalize fin s (itr (parStep s down) k p) = E at *
    generalize itr (parStep s down) k p = A at *
    by_cases hLA : (L : Int) < (A : Int)
    ·rw [if_pos hLA] at HU
     exact qt31
    ·rw [if_neg hLA] at HU
     have hLA' : (A : Int) ≤ (L : Int) := by omega
     clear hLA
     exact qt31
theorem qt85 {P : Prop} (h : P := by
  have := HEI.out; have h9 : att s (j + 1) = fin s (att s j) + 1 := rfl; omega
 ) : P := h
theorem qt3 {P : Prop} (h : P := by
  clear hu
  obtain ⟨i, hi1, hi2, rfl, hu, rfl⟩ := hrel
  have hfl := fin_le (att_in hj).1
  by_cases hlt : i < fin s (att s j)
  ·have his : i < s.size := by omega
   have hnl := fin_att_no (s := s) (j := j) (i := i) qo hlt
   have HI : Hid (∀ ww, Calls Tryz.prog 247 #[.string s, .int .i64 i] ww fun e w' => e = .returned (.bool (!spc (bt s i))) ∧ w' = ww) := by
    intro ww
    have := sHasInk_any s i i ww hs rfl qo
    rw [decide_eq_true his, Bool.true_and] at this
    exact this
   cases hsp : spc (bt s i) with
   | false =>
    have HS : Hid (X = i) := by
     rw [Hid, ← hu.out, up_stop]
     intro h; rw [hC1.out i hsp] at h; exact absurd h.2 qi
    rw [hsp] at HI
    clear hsp hu
    go_wp2_with fail
    refine (HI.out _).mono ?_
    rintro e w' ⟨rfl, rfl⟩
    go_wp2
    (try rw [Exit.noGoto_ret])
    all_goals
     first
      | (exact qV (.int .i64 i) (by simp [results, results282, go_sem]) (ret_int (by rw [HS.out])))
   | true =>
    have HS : Hid (Nib.up C s.size (i + 1) = X) := by
     rw [Hid, ← hu.out]
     exact (up_step his (hC2.out i qo his hsp (Or.inr (Or.inl (emp_no his hnl))))).symm
    rw [hsp] at HI
    clear hsp hu
    go_wp2_with fail
    refine (HI.out _).mono ?_
    rintro e w' ⟨rfl, rfl⟩
    go_wp2
    go_roundg (fin s (att s j) - (i + 1))
    case measure => omega
    case rel => exact ⟨i + 1, by omega, by omega, by go_num, HS, rfl⟩
  ·have ei : i = fin s (att s j) := by omega
   have HEI : Hid (i = fin s (att s j)) := ei
   clear ei
   by_cases hne : j + 1 < lns s
   ·have hef := fin_lt_of hne
    have HS : Hid (Nib.up C s.size (att s (j + 1)) = X) := by
     have hfs : fin s (att s j) < s.size := hef
     have hC : C (fin s (att s j)) = true := by
      refine hC2.out _ qo hfs (nl_spc (fin_nl hfs)) ?_
      rcases hor with h | h | h
      ·by_cases hq2 : fin s (att s j) = q
       ·exact Or.inr (Or.inr hq2)
       ·exact Or.inr (Or.inl (emp_fin hj qo))
      ·exact Or.inl h
      ·exact Or.inr (Or.inl (emp_fin hj (emp_att_ne hj h)))
     rw [Hid, ← hu.out, HEI.out]
     exact (up_step hfs hC).symm
    clear hu
    have HBs : qH 223 #[.string s, .agg #[.int .i64 (att s j), .int .i64 (fin s (att s j))], .int .i64 1] (.tuple #[.agg #[.int .i64 (att s (j + 1)), .int .i64 (fin s (att s (j + 1)))], .bool true]) := fun ww => tBeside_down s _ _ _ j ww hs rfl rfl rfl hne
    have HE1 : qH 185 #[.agg #[.int .i64 (att s (j + 1)), .int .i64 (fin s (att s (j + 1)))]] (.bool (emp s (att s (j + 1)))) := by
     intro ww; rw [emp_att hne]; exact tIsEmpty_any _ _ ww
    cases st with
    | false =>
     go_wp2_with fail
     refine (HBs.out _).mono ?_
     rintro r2 w2 ⟨rfl, h2⟩
     obtain ⟨hc2, hf2, hz2⟩ := qb h2
     (try simp at hz2)
     have T2 : Two w2 (w1.heap.size) (att s j) (fin s (att s j)) := qTw
     have ⟨T2_0, T2_1, T2_z, T2_l⟩ := T2
     clear hc2 hf2
     go_wp2
     go_roundg (lns s - (j + 1))
     case measure => omega
     case rel =>
      refine Or.inl ⟨j + 1, i, att s (j + 1), hne, by omega, rfl, ?_, fin_ge _ _, ?_, Or.inr (Or.inl (by first | rfl | trivial)), HS, rfl, Two.set1 (Two.set0 T2 _) _, ?_⟩
      ·exact qt85
      ·exact qt85
      ·repeat exact qB
    | true =>
     cases hem : emp s (att s (j + 1)) with
     | false =>
      rw [hem] at HE1
      have HEM : Hid (emp s (att s (j + 1)) = false) := hem
      clear hem
      go_wp2_with fail
      refine (HBs.out _).mono ?_
      rintro r2 w2 ⟨rfl, h2⟩
      obtain ⟨hc2, hf2, hz2⟩ := qb h2
      (try simp at hz2)
      have T2 : Two w2 (w1.heap.size) (att s j) (fin s (att s j)) := qTw
      have ⟨T2_0, T2_1, T2_z, T2_l⟩ := T2
      have U : Two ((w2.setCell ⟨w1.heap.size, 0, none⟩ (.int .i64 (att s (j + 1) : Nat))).setCell ⟨w1.heap.size, 1, none⟩ (.int .i64 (fin s (att s (j + 1)) : Nat))) w1.heap.size (att s (j + 1) : Nat) (fin s (att s (j + 1)) : Nat) := Two.set1 (Two.set0 T2 _) _
      clear hc2 hf2
      go_wp2_with fail
      refine (HE1.out _).mono ?_
      rintro r3 w3 ⟨rfl, h3⟩
      obtain ⟨hc3, hf3, hz3⟩ := qb h3
      (try simp at hz3)
      have U3 : Two w3 (w1.heap.size) (att s (j + 1)) (fin s (att s (j + 1))) := qTw
      have ⟨U3_0, U3_1, U3_z, U3_l⟩ := U3
      clear hc3 hf3
      go_wp2
      go_roundg (lns s - (j + 1))
      case measure => omega
      case rel =>
       refine Or.inl ⟨j + 1, i, att s (j + 1), hne, by omega, rfl, ?_, fin_ge _ _, ?_, Or.inr (Or.inr HEM.out), HS, rfl, U3, ?_⟩
       ·exact qt85
       ·exact qt85
       ·repeat exact qB
     | true =>
      rw [hem] at HE1
      have HZ : Hid (X = att s (j + 1)) := by
       rw [Hid, ← HS.out, up_stop]
       intro h
       have h9 : att s (j + 1) = fin s (att s j) + 1 := rfl
       have h8 := HEI.out
       rw [hC3.out rfl _ qo hem] at h
       exact absurd h.2 qi
      clear hem HS
      go_wp2_with fail
      refine (HBs.out _).mono ?_
      rintro r2 w2 ⟨rfl, h2⟩
      obtain ⟨hc2, hf2, hz2⟩ := qb h2
      (try simp at hz2)
      have T2 : Two w2 (w1.heap.size) (att s j) (fin s (att s j)) := qTw
      have ⟨T2_0, T2_1, T2_z, T2_l⟩ := T2
      have U : Two ((w2.setCell ⟨w1.heap.size, 0, none⟩ (.int .i64 (att s (j + 1) : Nat))).setCell ⟨w1.heap.size, 1, none⟩ (.int .i64 (fin s (att s (j + 1)) : Nat))) w1.heap.size (att s (j + 1) : Nat) (fin s (att s (j + 1)) : Nat) := Two.set1 (Two.set0 T2 _) _
      clear hc2 hf2
      go_wp2_with fail
      refine (HE1.out _).mono ?_
      rintro r3 w3 ⟨rfl, h3⟩
      obtain ⟨hc3, hf3, hz3⟩ := qb h3
      (try simp at hz3)
      have U3 : Two w3 (w1.heap.size) (att s (j + 1)) (fin s (att s (j + 1))) := qTw
      have ⟨U3_0, U3_1, U3_z, U3_l⟩ := U3
      clear hc3 hf3
      go_wp2
      (try rw [Exit.noGoto_ret])
      all_goals
       first
        | (exact qV (.int .i64 (att s (j + 1) : Nat)) (by simp [results, results282, go_sem]) (ret_int (by rw [HZ.out])))
   ·have HZ : Hid (X = i) := by
     have hF := fin_last (s := s) (m := j) qo
     rw [Hid, ← hu.out, up_stop]
     have := HEI.out
     intro h; omega
    clear hu
    have HBs : qH 223 #[.string s, .agg #[.int .i64 (att s j), .int .i64 (fin s (att s j))], .int .i64 1] (.tuple #[.agg #[.int .i64 (0), .int .i64 (0)], .bool false]) := fun ww => tBeside_none s _ _ _ ww hs (Or.inl rfl) (fun _ => by have := fin_last (s := s) (m := j) qo; omega) (fun h => by omega)
    go_wp2_with fail
    refine (HBs.out _).mono ?_
    rintro r2 w2 ⟨rfl, h2⟩
    obtain ⟨hc2, hf2, hz2⟩ := qb h2
    (try simp at hz2)
    have T2 : Two w2 (w1.heap.size) (att s j) (fin s (att s j)) := qTw
    have ⟨T2_0, T2_1, T2_z, T2_l⟩ := T2
    clear hc2 hf2
    go_wp2
    go_roundg 0
    case measure => omega
    case rel =>
     refine Or.inr ⟨by rw [HZ.out], rfl, ?_⟩
     repeat exact qB
 ) : P := h
theorem sNextInk_any (s : ByteArray) (q : Nat) (st : Bool) (C : Nat → Bool) (w : World) (hs : s.size ≤ 1000) (hq : q ≤ s.size)
  (hC1 : Hid (∀ i, spc (bt s i) = false → C i = false)) (hC2 : Hid (∀ i, q ≤ i → i < s.size → spc (bt s i) = true → (st = false ∨ emp s i = false ∨ i = q) → C i = true)) (hC3 : Hid (st = true → ∀ i, q < i → emp s i = true → C i = false)) :
  qC 282 #[.string s, .int .i64 q, .bool st] w (.int .i64 (Nib.up C s.size q)) := by
 generalize hX : Nib.up C s.size q = X
 have HX : Hid (Nib.up C s.size q = X) := hX
 clear hX
 have hm := lin_lt hq
 have HL : qH 195 #[.string s, .int .i64 q] (.agg #[.int .i64 (att s (lin s q)), .int .i64 (fin s (att s (lin s q)))]) := by
  intro ww
  have := tLine_any s q q ww hs rfl hq
  rw [fin_eq hq, beg_eq hq] at this
  exact this
 go_enter func282, ntmps282
 go_wp2_with fail
 go_step3
 go_wp2_with fail
 refine (HL.out _).mono ?_
 rintro e w1 ⟨rfl, h1⟩
 obtain ⟨hc1, hf1, hz1⟩ := qb h1
 try simp at hz1
 go_wp2
 go_step3
 go_wp2
 go_loopg [1, 8] (lns s - lin s q) (fun g pl mo wr => (∃ j pv b : Nat, j < lns s ∧ g + j = lns s ∧ pl = .int .i64 pv ∧ b = max pv (att s j) ∧ b ≤ fin s (att s j) ∧ q ≤ b ∧ (b = q ∨ st = false ∨ emp s (att s j) = false) ∧ Hid (Nib.up C s.size b = X) ∧ mo = .bool true ∧ Two wr w1.heap.size (att s j) (fin s (att s j)) ∧ Below w.heap.size w wr) ∨ (pl = .int .i64 X ∧ mo = .bool false ∧ Below w.heap.size w wr))
 case atStart =>
  refine Or.inl ⟨lin s q, q, q, hm, ?_, rfl, ?_, ?_, Nat.le_refl _, Or.inl rfl, HX, rfl, Two.new _ _ _ _, ?_⟩
  ·omega
  ·rw [← beg_eq hq]; have := beg_le s q; omega
  ·rw [← fin_eq hq]; exact fin_ge s q
  ·repeat exact qB
 case round =>
  rcases hrel with ⟨j, pv, b, hj, hg, rfl, hb, hbf, hqb, hor, hu, rfl, T, hB⟩ | ⟨rfl, rfl, hB⟩
  ·have t0 := (T).c0
   have t1 := (T).c1
   have tz := (T).fz
   have tl := (T).lt
   by_cases hpv : (pv : Int) < (att s j : Nat)
   ·have eb : b = att s j := by omega
    subst eb
    clear hb
    go_wp2
    go_loopg [1] (fin s (att s j) - att s j) (fun g2 pl wx => ∃ i : Nat, att s j ≤ i ∧ i + g2 = fin s (att s j) ∧ pl = .int .i64 i ∧ Hid (Nib.up C s.size i = X) ∧ wx = wr)
    case atStart => exact ⟨att s j, Nat.le_refl _, by omega, rfl, hu, rfl⟩
    case round =>
     exact qt3
   ·have eb : pv = b := by omega
    have hpv' : ((att s j : Nat) : Int) ≤ (pv : Int) := by omega
    subst eb
    clear hb hpv
    go_wp2
    go_loopg [1] (fin s (att s j) - pv) (fun g2 pl wx => ∃ i : Nat, pv ≤ i ∧ i + g2 = fin s (att s j) ∧ pl = .int .i64 i ∧ Hid (Nib.up C s.size i = X) ∧ wx = wr)
    case atStart => exact ⟨pv, Nat.le_refl _, by omega, rfl, hu, rfl⟩
    case round =>
     exact qt3
  ·go_wp2
   (try rw [Exit.noGoto_ret])
   all_goals
    first
     | (exact qV (.int .i64 X) (by simp [results, results282, go_sem]) rfl)
