/- A part. -/
import Derived.Test.YtlendfhehhacpaaGreatP12
set_option linter.unusedVariables false
set_option linter.unusedSimpArgs false
set_option maxRecDepth 100000
set_option maxHeartbeats 8000000
namespace Go.Proofs.YtlendfhehhacpaaGreat
open Go.RowKit
theorem tJoin_nat (a b c d : Nat) (w : World) :
  qC 196 #[.agg #[.int .i64 (a), .int .i64 (b)], .agg #[.int .i64 (c), .int .i64 (d)]] w (.agg #[.int .i64 (((min a c : Nat) : Int)), .int .i64 (((max b d : Nat) : Int))]) := by
 have := tJoin_any a b c d w
 rw [show min (a : Int) c = ((min a c : Nat) : Int) by omega, show max (b : Int) d = ((max b d : Nat) : Int) by omega] at this
 exact this
theorem tEmpty_eq (a : Int) (w : World) :
  qC 185 #[.agg #[.int .i64 (a), .int .i64 (a)]] w (.bool true) := by
 have := tIsEmpty_any a a w
 rw [show (a == a) = true by simp] at this
 exact this
theorem tEmpty_ne (a b : Nat) (w : World) (h : a ≠ b) :
  qC 185 #[.agg #[.int .i64 (a), .int .i64 (b)]] w (.bool false) := by
 have := tIsEmpty_any a b w
 rw [show ((a : Int) == b) = false by simp; omega] at this
 exact this
theorem qt11 {P : Prop} (h : P := by
  clear he
  go_enter Tryz.func259, Tryz.ntmps259
  have G : Tri (((w.alloc (.cells #[.string s, .int .i64 p, .bool wh] 213)).alloc (.cells #[.int .i64 i, .int .i64 j] 128)).alloc (.cells #[.int .i64 0, .int .i64 0] 128)) w.heap.size s p wh := Tri.alloc (Tri.alloc (Tri.new _ _ _ _ _) _) _
  have T : Two (((w.alloc (.cells #[.string s, .int .i64 p, .bool wh] 213)).alloc (.cells #[.int .i64 i, .int .i64 j] 128)).alloc (.cells #[.int .i64 0, .int .i64 0] 128)) (w.heap.size + 1) i j := Two.alloc (by have := Two.new (w.alloc (.cells #[.string s, .int .i64 p, .bool wh] 213)) i j 128; simpa using this) _
  have R : Two (((w.alloc (.cells #[.string s, .int .i64 p, .bool wh] 213)).alloc (.cells #[.int .i64 i, .int .i64 j] 128)).alloc (.cells #[.int .i64 0, .int .i64 0] 128)) (w.heap.size + 1 + 1) 0 0 := qN
  go_wp2_with fail
  refine (HR1.out _).mono ?_
  rintro r1 w1 ⟨rfl, h1⟩
  obtain ⟨hc1, hf1, hz1⟩ := qb h1
  (try simp at hz1)
  have G1 : Tri w1 (w.heap.size) (s) (p) (wh) := qTi
  have ⟨G1_0, G1_1, G1_2, G1_z, G1_l⟩ := G1
  have T1 : Two w1 (w.heap.size + 1) (i) (j) := qTw
  have ⟨T1_0, T1_1, T1_z, T1_l⟩ := T1
  have R1 : Two w1 (w.heap.size + 1 + 1) (0) (0) := qTw
  have ⟨R1_0, R1_1, R1_z, R1_l⟩ := R1
  clear hc1 hf1
  have E : Two (w1.alloc (.cells #[.int .i64 c, .int .i64 d] 128)) w1.heap.size c d := Two.new _ _ _ _
  go_wp2_with fail
  refine (HB1.out _).mono ?_
  rintro r2 w2 ⟨rfl, h2⟩
  obtain ⟨hc2, hf2, hz2⟩ := qb h2
  (try simp at hz2)
  have G2 : Tri w2 (w.heap.size) (s) (p) (wh) := qTi
  have ⟨G2_0, G2_1, G2_2, G2_z, G2_l⟩ := G2
  have T2 : Two w2 (w.heap.size + 1) (i) (j) := qTw
  have ⟨T2_0, T2_1, T2_z, T2_l⟩ := T2
  have R2 : Two w2 (w.heap.size + 1 + 1) (0) (0) := qTw
  have ⟨R2_0, R2_1, R2_z, R2_l⟩ := R2
  have E2 : Two w2 (w1.heap.size) (c) (d) := qTw
  have ⟨E2_0, E2_1, E2_z, E2_l⟩ := E2
  clear hc2 hf2
  go_wp2_with fail
  refine (HR2.out _).mono ?_
  rintro r3 w3 ⟨rfl, h3⟩
  obtain ⟨hc3, hf3, hz3⟩ := qb h3
  (try simp at hz3)
  have G3 : Tri w3 (w.heap.size) (s) (p) (wh) := qTi
  have ⟨G3_0, G3_1, G3_2, G3_z, G3_l⟩ := G3
  have T3 : Two w3 (w.heap.size + 1) (i) (j) := qTw
  have ⟨T3_0, T3_1, T3_z, T3_l⟩ := T3
  have R3 : Two w3 (w.heap.size + 1 + 1) (0) (0) := qTw
  have ⟨R3_0, R3_1, R3_z, R3_l⟩ := R3
  clear hc3 hf3
  have E2 : Two (w3.alloc (.cells #[.int .i64 c', .int .i64 d'] 128)) w3.heap.size c' d' := Two.new _ _ _ _
  go_wp2_with fail
  refine (HB2.out _).mono ?_
  rintro r4 w4 ⟨rfl, h4⟩
  obtain ⟨hc4, hf4, hz4⟩ := qb h4
  (try simp at hz4)
  have G4 : Tri w4 (w.heap.size) (s) (p) (wh) := qTi
  have ⟨G4_0, G4_1, G4_2, G4_z, G4_l⟩ := G4
  have T4 : Two w4 (w.heap.size + 1) (i) (j) := qTw
  have ⟨T4_0, T4_1, T4_z, T4_l⟩ := T4
  have R4 : Two w4 (w.heap.size + 1 + 1) (0) (0) := qTw
  have ⟨R4_0, R4_1, R4_z, R4_l⟩ := R4
  have E24 : Two w4 (w3.heap.size) (c') (d') := qTw
  have ⟨E24_0, E24_1, E24_z, E24_l⟩ := E24
  clear hc4 hf4
  go_wp2_with fail
  refine (HJ.out _).mono ?_
  rintro r5 w5 ⟨rfl, h5⟩
  obtain ⟨hc5, hf5, hz5⟩ := qb h5
  (try simp at hz5)
  have G5 : Tri w5 (w.heap.size) (s) (p) (wh) := qTi
  have ⟨G5_0, G5_1, G5_2, G5_z, G5_l⟩ := G5
  have T5 : Two w5 (w.heap.size + 1) (i) (j) := qTw
  have ⟨T5_0, T5_1, T5_z, T5_l⟩ := T5
  have R5 : Two w5 (w.heap.size + 1 + 1) (0) (0) := qTw
  have ⟨R5_0, R5_1, R5_z, R5_l⟩ := R5
  have E25 : Two w5 (w3.heap.size) (c') (d') := qTw
  have ⟨E25_0, E25_1, E25_z, E25_l⟩ := E25
  clear hc5 hf5
  go_wp2
  exact qV (.agg #[.int .i64 (U), .int .i64 (V)]) (by simp [results, Tryz.results259, go_sem, R5_0, R5_1, R5_z, R5_l, T5_0, T5_1]) rfl
 ) : P := h
theorem qt13 {P : Prop} (h : P := by
  clear he
  go_enter Tryz.func259, Tryz.ntmps259
  have G : Tri (((w.alloc (.cells #[.string s, .int .i64 p, .bool wh] 213)).alloc (.cells #[.int .i64 i, .int .i64 j] 128)).alloc (.cells #[.int .i64 0, .int .i64 0] 128)) w.heap.size s p wh := Tri.alloc (Tri.alloc (Tri.new _ _ _ _ _) _) _
  have T : Two (((w.alloc (.cells #[.string s, .int .i64 p, .bool wh] 213)).alloc (.cells #[.int .i64 i, .int .i64 j] 128)).alloc (.cells #[.int .i64 0, .int .i64 0] 128)) (w.heap.size + 1) i j := Two.alloc (by have := Two.new (w.alloc (.cells #[.string s, .int .i64 p, .bool wh] 213)) i j 128; simpa using this) _
  have R : Two (((w.alloc (.cells #[.string s, .int .i64 p, .bool wh] 213)).alloc (.cells #[.int .i64 i, .int .i64 j] 128)).alloc (.cells #[.int .i64 0, .int .i64 0] 128)) (w.heap.size + 1 + 1) 0 0 := qN
  go_wp2_with fail
  refine (HR1.out _).mono ?_
  rintro r1 w1 ⟨rfl, h1⟩
  obtain ⟨hc1, hf1, hz1⟩ := qb h1
  (try simp at hz1)
  have G1 : Tri w1 (w.heap.size) (s) (p) (wh) := qTi
  have ⟨G1_0, G1_1, G1_2, G1_z, G1_l⟩ := G1
  have T1 : Two w1 (w.heap.size + 1) (i) (j) := qTw
  have ⟨T1_0, T1_1, T1_z, T1_l⟩ := T1
  have R1 : Two w1 (w.heap.size + 1 + 1) (0) (0) := qTw
  have ⟨R1_0, R1_1, R1_z, R1_l⟩ := R1
  clear hc1 hf1
  have E : Two (w1.alloc (.cells #[.int .i64 c, .int .i64 d] 128)) w1.heap.size c d := Two.new _ _ _ _
  go_wp2_with fail
  refine (HB1.out _).mono ?_
  rintro r2 w2 ⟨rfl, h2⟩
  obtain ⟨hc2, hf2, hz2⟩ := qb h2
  (try simp at hz2)
  have G2 : Tri w2 (w.heap.size) (s) (p) (wh) := qTi
  have ⟨G2_0, G2_1, G2_2, G2_z, G2_l⟩ := G2
  have T2 : Two w2 (w.heap.size + 1) (i) (j) := qTw
  have ⟨T2_0, T2_1, T2_z, T2_l⟩ := T2
  have R2 : Two w2 (w.heap.size + 1 + 1) (0) (0) := qTw
  have ⟨R2_0, R2_1, R2_z, R2_l⟩ := R2
  have E2 : Two w2 (w1.heap.size) (c) (d) := qTw
  have ⟨E2_0, E2_1, E2_z, E2_l⟩ := E2
  clear hc2 hf2
  go_wp2_with fail
  refine (HR2.out _).mono ?_
  rintro r3 w3 ⟨rfl, h3⟩
  obtain ⟨hc3, hf3, hz3⟩ := qb h3
  (try simp at hz3)
  have G3 : Tri w3 (w.heap.size) (s) (p) (wh) := qTi
  have ⟨G3_0, G3_1, G3_2, G3_z, G3_l⟩ := G3
  have T3 : Two w3 (w.heap.size + 1) (i) (j) := qTw
  have ⟨T3_0, T3_1, T3_z, T3_l⟩ := T3
  have R3 : Two w3 (w.heap.size + 1 + 1) (0) (0) := qTw
  have ⟨R3_0, R3_1, R3_z, R3_l⟩ := R3
  clear hc3 hf3
  have E2 : Two (w3.alloc (.cells #[.int .i64 c', .int .i64 d'] 128)) w3.heap.size c' d' := Two.new _ _ _ _
  go_wp2_with fail
  refine (HB2.out _).mono ?_
  rintro r4 w4 ⟨rfl, h4⟩
  obtain ⟨hc4, hf4, hz4⟩ := qb h4
  (try simp at hz4)
  have G4 : Tri w4 (w.heap.size) (s) (p) (wh) := qTi
  have ⟨G4_0, G4_1, G4_2, G4_z, G4_l⟩ := G4
  have T4 : Two w4 (w.heap.size + 1) (i) (j) := qTw
  have ⟨T4_0, T4_1, T4_z, T4_l⟩ := T4
  have R4 : Two w4 (w.heap.size + 1 + 1) (0) (0) := qTw
  have ⟨R4_0, R4_1, R4_z, R4_l⟩ := R4
  have E24 : Two w4 (w3.heap.size) (c') (d') := qTw
  have ⟨E24_0, E24_1, E24_z, E24_l⟩ := E24
  clear hc4 hf4
  go_wp2
  exact qV (.agg #[.int .i64 (i), .int .i64 (j)]) (by simp [results, Tryz.results259, go_sem, R4_0, R4_1, R4_z, R4_l, T4_0, T4_1]) rfl
 ) : P := h
theorem oWordB (s : ByteArray) (p : Int) (i j : Nat) (wh g : Bool) (hs : s.size ≤ 1000) (hij : i ≤ j) (hj : j ≤ s.size) :
  ∃ a b : Nat, a ≤ b ∧ b ≤ s.size ∧ ∀ ww, qC 259 #[.agg #[.string s, .int .i64 p, .bool wh], .agg #[.int .i64 (i), .int .i64 (j)], .bool g] ww (.agg #[.int .i64 (a), .int .i64 (b)]) := by
 obtain ⟨c, d, c1, c2, c3, HR1⟩ := tRun_ex s j g hs hj
 obtain ⟨c', d', c1', c2', c3', HR2⟩ := tRun_ex s (i - 1) g hs qo
 obtain ⟨B1, HB1⟩ := oBlanks_ex s p c d wh qo c3
 obtain ⟨B2, HB2⟩ := oBlanks_ex s p c' d' wh qo c3'
 have hwr : IntKind.i64.wrap ((i : Int) - 1) = (i : Int) - 1 := by rw [IntKind.wrap_i64]; omega
 have HR1 : qH 256 #[.string s, .int .i64 j, .bool g] (.agg #[.int .i64 (c), .int .i64 (d)]) := HR1
 cases B1 with
 | true =>
  have HB1 : qH 257 #[.agg #[.string s, .int .i64 p, .bool wh], .agg #[.int .i64 (c), .int .i64 (d)]] (.bool true) := HB1
  have HJ : qH 196 #[.agg #[.int .i64 (i), .int .i64 (j)], .agg #[.int .i64 (c), .int .i64 (d)]] (.agg #[.int .i64 (((min i c : Nat) : Int)), .int .i64 (((max j d : Nat) : Int))]) := fun ww => tJoin_nat i j c d ww
  refine ⟨min i c, max j d, by omega, by omega, fun w => ?_⟩
  generalize ((min i c : Nat) : Int) = U at *
  generalize ((max j d : Nat) : Int) = V at *
  clear HR2 HB2 c1 c2 c3 c1' c2' c3'
  go_enter Tryz.func259, Tryz.ntmps259
  have G : Tri (((w.alloc (.cells #[.string s, .int .i64 p, .bool wh] 213)).alloc (.cells #[.int .i64 i, .int .i64 j] 128)).alloc (.cells #[.int .i64 0, .int .i64 0] 128)) w.heap.size s p wh := Tri.alloc (Tri.alloc (Tri.new _ _ _ _ _) _) _
  have T : Two (((w.alloc (.cells #[.string s, .int .i64 p, .bool wh] 213)).alloc (.cells #[.int .i64 i, .int .i64 j] 128)).alloc (.cells #[.int .i64 0, .int .i64 0] 128)) (w.heap.size + 1) i j := Two.alloc (by have := Two.new (w.alloc (.cells #[.string s, .int .i64 p, .bool wh] 213)) i j 128; simpa using this) _
  have R : Two (((w.alloc (.cells #[.string s, .int .i64 p, .bool wh] 213)).alloc (.cells #[.int .i64 i, .int .i64 j] 128)).alloc (.cells #[.int .i64 0, .int .i64 0] 128)) (w.heap.size + 1 + 1) 0 0 := qN
  go_wp2_with fail
  refine (HR1.out _).mono ?_
  rintro r1 w1 ⟨rfl, h1⟩
  obtain ⟨hc1, hf1, hz1⟩ := qb h1
  (try simp at hz1)
  have G1 : Tri w1 (w.heap.size) (s) (p) (wh) := qTi
  have ⟨G1_0, G1_1, G1_2, G1_z, G1_l⟩ := G1
  have T1 : Two w1 (w.heap.size + 1) (i) (j) := qTw
  have ⟨T1_0, T1_1, T1_z, T1_l⟩ := T1
  have R1 : Two w1 (w.heap.size + 1 + 1) (0) (0) := qTw
  have ⟨R1_0, R1_1, R1_z, R1_l⟩ := R1
  clear hc1 hf1
  have E : Two (w1.alloc (.cells #[.int .i64 c, .int .i64 d] 128)) w1.heap.size c d := Two.new _ _ _ _
  go_wp2_with fail
  refine (HB1.out _).mono ?_
  rintro r2 w2 ⟨rfl, h2⟩
  obtain ⟨hc2, hf2, hz2⟩ := qb h2
  (try simp at hz2)
  have G2 : Tri w2 (w.heap.size) (s) (p) (wh) := qTi
  have ⟨G2_0, G2_1, G2_2, G2_z, G2_l⟩ := G2
  have T2 : Two w2 (w.heap.size + 1) (i) (j) := qTw
  have ⟨T2_0, T2_1, T2_z, T2_l⟩ := T2
  have R2 : Two w2 (w.heap.size + 1 + 1) (0) (0) := qTw
  have ⟨R2_0, R2_1, R2_z, R2_l⟩ := R2
  have E2 : Two w2 (w1.heap.size) (c) (d) := qTw
  have ⟨E2_0, E2_1, E2_z, E2_l⟩ := E2
  clear hc2 hf2
  go_wp2_with fail
  refine (HJ.out _).mono ?_
  rintro r3 w3 ⟨rfl, h3⟩
  obtain ⟨hc3, hf3, hz3⟩ := qb h3
  (try simp at hz3)
  have G3 : Tri w3 (w.heap.size) (s) (p) (wh) := qTi
  have ⟨G3_0, G3_1, G3_2, G3_z, G3_l⟩ := G3
  have T3 : Two w3 (w.heap.size + 1) (i) (j) := qTw
  have ⟨T3_0, T3_1, T3_z, T3_l⟩ := T3
  have R3 : Two w3 (w.heap.size + 1 + 1) (0) (0) := qTw
  have ⟨R3_0, R3_1, R3_z, R3_l⟩ := R3
  have E3 : Two w3 (w1.heap.size) (c) (d) := qTw
  have ⟨E3_0, E3_1, E3_z, E3_l⟩ := E3
  clear hc3 hf3
  go_wp2
  exact qV (.agg #[.int .i64 (U), .int .i64 (V)]) (by simp [results, Tryz.results259, go_sem, R3_0, R3_1, R3_z, R3_l, T3_0, T3_1]) rfl
 | false =>
  have HB1 : qH 257 #[.agg #[.string s, .int .i64 p, .bool wh], .agg #[.int .i64 (c), .int .i64 (d)]] (.bool false) := HB1
  have hcase : (0 < i ∧ (((i - 1 : Nat)) : Int) = (i : Int) - 1 ∧ ¬ (i : Int) - 1 < 0) ∨ (((i - 1 : Nat) : Int) = 0 ∧ (i : Int) - 1 < 0) := by omega
  have hx0 : i = 0 → True := fun _ => trivial
  cases B2 with
  | true =>
   have HB2 : qH 257 #[.agg #[.string s, .int .i64 p, .bool wh], .agg #[.int .i64 (c'), .int .i64 (d')]] (.bool true) := HB2
   have HJ : qH 196 #[.agg #[.int .i64 (i), .int .i64 (j)], .agg #[.int .i64 (c'), .int .i64 (d')]] (.agg #[.int .i64 (((min i c' : Nat) : Int)), .int .i64 (((max j d' : Nat) : Int))]) := fun ww => tJoin_nat i j c' d' ww
   refine ⟨min i c', max j d', by omega, by omega, fun w => ?_⟩
   generalize ((min i c' : Nat) : Int) = U at *
   generalize ((max j d' : Nat) : Int) = V at *
   clear c1 c2 c3 c1' c2' c3' hij hx0
   rcases hcase with ⟨hi, he, hne⟩ | ⟨he, hne⟩
   ·have HR2 : Hid (∀ ww, qC 256 #[.string s, .int .i64 ((i : Int) - 1), .bool g] ww (.agg #[.int .i64 (c'), .int .i64 (d')])) := by
     rw [← he]; exact HR2
    exact qt11
   ·have HR2 : Hid (∀ ww, qC 256 #[.string s, .int .i64 0, .bool g] ww (.agg #[.int .i64 (c'), .int .i64 (d')])) := by
     rw [he] at HR2; exact HR2
    exact qt11
  | false =>
   have HB2 : qH 257 #[.agg #[.string s, .int .i64 p, .bool wh], .agg #[.int .i64 (c'), .int .i64 (d')]] (.bool false) := HB2
   refine ⟨i, j, by omega, by omega, fun w => ?_⟩
   clear c1 c2 c3 c1' c2' c3' hij hx0
   rcases hcase with ⟨hi, he, hne⟩ | ⟨he, hne⟩
   ·have HR2 : Hid (∀ ww, qC 256 #[.string s, .int .i64 ((i : Int) - 1), .bool g] ww (.agg #[.int .i64 (c'), .int .i64 (d')])) := by
     rw [← he]; exact HR2
    exact qt13
   ·have HR2 : Hid (∀ ww, qC 256 #[.string s, .int .i64 0, .bool g] ww (.agg #[.int .i64 (c'), .int .i64 (d')])) := by
     rw [he] at HR2; exact HR2
    exact qt13
theorem oBlanksW (s : ByteArray) (p : Int) (i j : Nat) (wh g : Bool) (hs : s.size ≤ 1000) (hij : i ≤ j) (hj : j ≤ s.size) :
  ∃ (a b : Nat) (is : Bool), a ≤ b ∧ b ≤ s.size ∧ ∀ ww, qC 258 #[.agg #[.string s, .int .i64 p, .bool wh], .agg #[.int .i64 (i), .int .i64 (j)], .bool g] ww (.tuple #[.agg #[.int .i64 a, .int .i64 b, .bool false], .bool is]) := by
 obtain ⟨c, d, c1, c2, c3, HR1⟩ := tRun_ex s j g hs hj
 have HR1 : qH 256 #[.string s, .int .i64 j, .bool g] (.agg #[.int .i64 (c), .int .i64 (d)]) := HR1
 by_cases hcd : c = d
 ·subst hcd
  have HE : qH 185 #[.agg #[.int .i64 (c), .int .i64 (c)]] (.bool true) := fun ww => tEmpty_eq c ww
  refine ⟨0, 0, false, Nat.le_refl _, Nat.zero_le _, fun w => ?_⟩
  go_enter Tryz.func258, Tryz.ntmps258
  have G : Tri (((w.alloc (.cells #[.string s, .int .i64 p, .bool wh] 213)).alloc (.cells #[.int .i64 i, .int .i64 j] 128)).alloc (.cells #[.int .i64 0, .int .i64 0, .bool false] 186)) w.heap.size s p wh := Tri.alloc (Tri.alloc (Tri.new _ _ _ _ _) _) _
  have T : Two (((w.alloc (.cells #[.string s, .int .i64 p, .bool wh] 213)).alloc (.cells #[.int .i64 i, .int .i64 j] 128)).alloc (.cells #[.int .i64 0, .int .i64 0, .bool false] 186)) (w.heap.size + 1) i j := Two.alloc (by have := Two.new (w.alloc (.cells #[.string s, .int .i64 p, .bool wh] 213)) i j 128; simpa using this) _
  have Q : Tre (((w.alloc (.cells #[.string s, .int .i64 p, .bool wh] 213)).alloc (.cells #[.int .i64 i, .int .i64 j] 128)).alloc (.cells #[.int .i64 0, .int .i64 0, .bool false] 186)) (w.heap.size + 1 + 1) 0 0 false := by have := Tre.new ((w.alloc (.cells #[.string s, .int .i64 p, .bool wh] 213)).alloc (.cells #[.int .i64 i, .int .i64 j] 128)) 0 0 false 186; simpa using this
  go_wp2_with fail
  refine (HR1.out _).mono ?_
  rintro r1 w1 ⟨rfl, h1⟩
  obtain ⟨hc1, hf1, hz1⟩ := qb h1
  (try simp at hz1)
  have G1 : Tri w1 (w.heap.size) (s) (p) (wh) := qTi
  have ⟨G1_0, G1_1, G1_2, G1_z, G1_l⟩ := G1
  have T1 : Two w1 (w.heap.size + 1) (i) (j) := qTw
  have ⟨T1_0, T1_1, T1_z, T1_l⟩ := T1
  have Q1 : Tre w1 (w.heap.size + 1 + 1) (0) (0) (false) := qTe
  have ⟨Q1_0, Q1_1, Q1_2, Q1_z, Q1_l⟩ := Q1
  clear hc1 hf1
  have E : Two (w1.alloc (.cells #[.int .i64 c, .int .i64 c] 128)) w1.heap.size c c := Two.new _ _ _ _
  go_wp2_with fail
  refine (HE.out _).mono ?_
  rintro r2 w2 ⟨rfl, h2⟩
  obtain ⟨hc2, hf2, hz2⟩ := qb h2
  (try simp at hz2)
  have G2 : Tri w2 (w.heap.size) (s) (p) (wh) := qTi
  have ⟨G2_0, G2_1, G2_2, G2_z, G2_l⟩ := G2
  have T2 : Two w2 (w.heap.size + 1) (i) (j) := qTw
  have ⟨T2_0, T2_1, T2_z, T2_l⟩ := T2
  have Q2 : Tre w2 (w.heap.size + 1 + 1) (0) (0) (false) := qTe
  have ⟨Q2_0, Q2_1, Q2_2, Q2_z, Q2_l⟩ := Q2
  have E2 : Two w2 (w1.heap.size) (c) (c) := qTw
  have ⟨E2_0, E2_1, E2_z, E2_l⟩ := E2
  clear hc2 hf2
  go_wp2
  exact qV (.tuple #[.agg #[.int .i64 0, .int .i64 0, .bool false], .bool false]) (by simp [results, Tryz.results258, go_sem, Q2_0, Q2_1, Q2_2, Q2_z, Q2_l]) rfl
 ·have HE : qH 185 #[.agg #[.int .i64 (c), .int .i64 (d)]] (.bool false) := fun ww => tEmpty_ne c d ww hcd
  have HJ : qH 196 #[.agg #[.int .i64 (i), .int .i64 (j)], .agg #[.int .i64 (c), .int .i64 (d)]] (.agg #[.int .i64 (((min i c : Nat) : Int)), .int .i64 (((max j d : Nat) : Int))]) := fun ww => tJoin_nat i j c d ww
  refine ⟨min i c, max j d, true, by omega, by omega, fun w => ?_⟩
  generalize ((min i c : Nat) : Int) = U at *
  generalize ((max j d : Nat) : Int) = V at *
  go_enter Tryz.func258, Tryz.ntmps258
  have G : Tri (((w.alloc (.cells #[.string s, .int .i64 p, .bool wh] 213)).alloc (.cells #[.int .i64 i, .int .i64 j] 128)).alloc (.cells #[.int .i64 0, .int .i64 0, .bool false] 186)) w.heap.size s p wh := Tri.alloc (Tri.alloc (Tri.new _ _ _ _ _) _) _
  have T : Two (((w.alloc (.cells #[.string s, .int .i64 p, .bool wh] 213)).alloc (.cells #[.int .i64 i, .int .i64 j] 128)).alloc (.cells #[.int .i64 0, .int .i64 0, .bool false] 186)) (w.heap.size + 1) i j := Two.alloc (by have := Two.new (w.alloc (.cells #[.string s, .int .i64 p, .bool wh] 213)) i j 128; simpa using this) _
  have Q : Tre (((w.alloc (.cells #[.string s, .int .i64 p, .bool wh] 213)).alloc (.cells #[.int .i64 i, .int .i64 j] 128)).alloc (.cells #[.int .i64 0, .int .i64 0, .bool false] 186)) (w.heap.size + 1 + 1) 0 0 false := by have := Tre.new ((w.alloc (.cells #[.string s, .int .i64 p, .bool wh] 213)).alloc (.cells #[.int .i64 i, .int .i64 j] 128)) 0 0 false 186; simpa using this
  go_wp2_with fail
  refine (HR1.out _).mono ?_
  rintro r1 w1 ⟨rfl, h1⟩
  obtain ⟨hc1, hf1, hz1⟩ := qb h1
  (try simp at hz1)
  have G1 : Tri w1 (w.heap.size) (s) (p) (wh) := qTi
  have ⟨G1_0, G1_1, G1_2, G1_z, G1_l⟩ := G1
  have T1 : Two w1 (w.heap.size + 1) (i) (j) := qTw
  have ⟨T1_0, T1_1, T1_z, T1_l⟩ := T1
  have Q1 : Tre w1 (w.heap.size + 1 + 1) (0) (0) (false) := qTe
  have ⟨Q1_0, Q1_1, Q1_2, Q1_z, Q1_l⟩ := Q1
  clear hc1 hf1
  have E : Two (w1.alloc (.cells #[.int .i64 c, .int .i64 d] 128)) w1.heap.size c d := Two.new _ _ _ _
  go_wp2_with fail
  refine (HE.out _).mono ?_
  rintro r2 w2 ⟨rfl, h2⟩
  obtain ⟨hc2, hf2, hz2⟩ := qb h2
  (try simp at hz2)
  have G2 : Tri w2 (w.heap.size) (s) (p) (wh) := qTi
  have ⟨G2_0, G2_1, G2_2, G2_z, G2_l⟩ := G2
  have T2 : Two w2 (w.heap.size + 1) (i) (j) := qTw
  have ⟨T2_0, T2_1, T2_z, T2_l⟩ := T2
  have Q2 : Tre w2 (w.heap.size + 1 + 1) (0) (0) (false) := qTe
  have ⟨Q2_0, Q2_1, Q2_2, Q2_z, Q2_l⟩ := Q2
  have E2 : Two w2 (w1.heap.size) (c) (d) := qTw
  have ⟨E2_0, E2_1, E2_z, E2_l⟩ := E2
  clear hc2 hf2
  go_wp2_with fail
  refine (HJ.out _).mono ?_
  rintro r3 w3 ⟨rfl, h3⟩
  obtain ⟨hc3, hf3, hz3⟩ := qb h3
  (try simp at hz3)
  have G3 : Tri w3 (w.heap.size) (s) (p) (wh) := qTi
  have ⟨G3_0, G3_1, G3_2, G3_z, G3_l⟩ := G3
  have T3 : Two w3 (w.heap.size + 1) (i) (j) := qTw
  have ⟨T3_0, T3_1, T3_z, T3_l⟩ := T3
  have Q3 : Tre w3 (w.heap.size + 1 + 1) (0) (0) (false) := qTe
  have ⟨Q3_0, Q3_1, Q3_2, Q3_z, Q3_l⟩ := Q3
  have E3 : Two w3 (w1.heap.size) (c) (d) := qTw
  have ⟨E3_0, E3_1, E3_z, E3_l⟩ := E3
  clear hc3 hf3
  go_wp2
  exact qV (.tuple #[.agg #[.int .i64 U, .int .i64 V, .bool false], .bool true]) (by simp [results, Tryz.results258, go_sem, Q3_0, Q3_1, Q3_2, Q3_z, Q3_l]) rfl
def ahd (s t : ByteArray) : Nat := Nib.up (fun i => Nib.bt s i == Nib.bt t i) (min s.size t.size) 0
def bhd (s t : ByteArray) : Nat := Nib.up (fun i => Nib.bt s (s.size - 1 - i) == Nib.bt t (t.size - 1 - i)) (min s.size t.size - ahd s t) 0
theorem qt21 {P : Prop} (h : P := by
  have HZ : B = z := by rw [← hu.out, Nib.up_stop]; exact fun h => hlt2 h.1
  clear hu
  go_wp2_with fail
  refine wp_region_held_drew (S := fun ww => Two ww w.heap.size 0 0) qk ?_ (fun hHeld => ?_)
  ·exact R0.drew
  refine qT 0 ?_
  simp only [Act.put, qP]
  refine qT 1 ?_
  simp only [Act.put, qP]
  refine qT 2 ?_
  simp only [Act.put, qP]
  refine qT 3 ?_
  simp only [Act.put, qP]
  refine wpAnyH_take (i := 4) (v := .bool false) (by simp only [List.getElem?_toArray, List.getElem?_cons_succ, List.getElem?_cons_zero]; rfl) qk qk qk (by exact fun _ _ _ h => h) (Or.inl ⟨by kernel_rfl, fun w hSw => by (try dsimp only at hSw); go_simp; first | done | omega | (simp [hlt2]; done)⟩) (by assumption) ?_
  try simp only [Act.put, qP]
  refine qT 5 ?_
  simp only [Act.put, qP]
  refine qS 6 ?_
  simp only [Act.put, qP]
  refine qS 7 ?_
  simp only [Act.put, qP]
  refine qS 8 ?_
  simp only [Act.put, qP]
  refine qS 9 ?_
  simp only [Act.put, qP]
  refine qS 10 ?_
  simp only [Act.put, qP]
  refine qS 11 ?_
  simp only [Act.put, qP]
  refine qS 12 ?_
  simp only [Act.put, qP]
  refine qS 13 ?_
  simp only [Act.put, qP]
  refine qS 14 ?_
  simp only [Act.put, qP]
  refine qS 15 ?_
  simp only [Act.put, qP]
  refine qS 16 ?_
  simp only [Act.put, qP]
  refine qS 17 ?_
  simp only [Act.put, qP]
  refine qS 18 ?_
  simp only [Act.put, qP]
  refine qS 19 ?_
  simp only [Act.put, qP]
  refine qS 20 ?_
  simp only [Act.put, qP]
  refine qT 21 ?_
  simp only [Act.put, qP]
  refine wpAnyH_done qk ?_ _
  go_wp2
  exact qV (.tuple #[.agg #[.int .i64 (A), .int .i64 ((s.size : Int) - z)], .agg #[.int .i64 (A), .int .i64 ((t.size : Int) - z)]]) (by simp [results, Tryz.results85, go_sem, ra0, ra1, raz, ral, rb0, rb1, rbz, rbl]) (by rw [HZ])
 ) : P := h
theorem tApart_any (s t : ByteArray) (w : World) (hs : s.size ≤ 1000) (ht : t.size ≤ 1000) :
  qC 85 #[.string s, .string t] w (.tuple #[.agg #[.int .i64 (ahd s t), .int .i64 ((s.size : Int) - bhd s t)], .agg #[.int .i64 (ahd s t), .int .i64 ((t.size : Int) - bhd s t)]]) := by
 have HA : Hid (Nib.up (fun i => Nib.bt s i == Nib.bt t i) (min s.size t.size) 0 = ahd s t) := rfl
 have HB : Hid (Nib.up (fun i => Nib.bt s (s.size - 1 - i) == Nib.bt t (t.size - 1 - i)) (min s.size t.size - ahd s t) 0 = bhd s t) := rfl
 have hA : ahd s t ≤ min s.size t.size := Nib.up_le (Nat.zero_le _)
 generalize ahd s t = A at *
 generalize bhd s t = B at *
 generalize hM : min s.size t.size = M at *
 have hm1 : M ≤ s.size := by omega
 have hm2 : M ≤ t.size := by omega
 rcases Nat.lt_or_ge t.size s.size with hst | hst
 all_goals
  go_enter Tryz.func85, Tryz.ntmps85
  have R0 : Two ((w.alloc (.cells #[.int .i64 0, .int .i64 0] 128)).alloc (.cells #[.int .i64 0, .int .i64 0] 128)) w.heap.size 0 0 := Two.alloc (Two.new _ _ _ _) _
  have R1 : Two ((w.alloc (.cells #[.int .i64 0, .int .i64 0] 128)).alloc (.cells #[.int .i64 0, .int .i64 0] 128)) (w.heap.size + 1) 0 0 := qN
  have BB : Below w.heap.size w ((w.alloc (.cells #[.int .i64 0, .int .i64 0] 128)).alloc (.cells #[.int .i64 0, .int .i64 0] 128)) := by
   repeat exact qB
  go_wp2
  go_loopw [7] (fun a wr => ∃ q : Nat, q ≤ M ∧ a = .int .i64 q ∧ Hid (Nib.up (fun i => Nib.bt s i == Nib.bt t i) M q = A) ∧ Two wr w.heap.size 0 0 ∧ Two wr (w.heap.size + 1) 0 0 ∧ Below w.heap.size w wr) (fun a _ => M - (intOf a).toNat)
  case atStart => exact ⟨0, Nat.zero_le _, rfl, HA, R0, R1, BB⟩
  case round =>
   clear R0 R1 BB
   obtain ⟨q, hq, rfl, hu, R0, R1, BB⟩ := hrel
   by_cases hlt : q < M
   ·have q1 : q < s.size := by omega
    have q2 : q < t.size := by omega
    have i1 : ((q : Nat) : Int) < ((s.size : Nat) : Int) := by omega
    have i2 : ((q : Nat) : Int) < ((t.size : Nat) : Int) := by omega
    by_cases hc : Nib.bt s q = Nib.bt t q
    ·have HS : Hid (Nib.up (fun i => Nib.bt s i == Nib.bt t i) M (q + 1) = A) := by rw [Hid, ← hu.out, Nib.up_step hlt (by simp [hc])]
     have HE : ((((s[q]'q1).toNat : Nat) : Int) == (((t[q]'q2).toNat : Nat) : Int)) = true := by rw [← Nib.bt_in q1, ← Nib.bt_in q2]; simp [hc]
     clear hu hc
     go_wp2_with fail
     go_region
     go_wp2
     go_round
     case rel => exact ⟨q + 1, by omega, by go_num, HS, R0.drew, R1.drew, BB.drew⟩
     case measure => simp [intOf] <;> omega
    ·have HZ : A = q := by rw [← hu.out, Nib.up_stop]; simp [hc]
     have HE : ((((s[q]'q1).toNat : Nat) : Int) == (((t[q]'q2).toNat : Nat) : Int)) = false := by rw [← Nib.bt_in q1, ← Nib.bt_in q2]; simp [hc]
     subst HZ
     clear hu hc
     go_wp2_with fail
     go_region
     go_wp2
     go_loopw [8] (fun a wr => ∃ z : Nat, z ≤ M - A ∧ a = .int .i64 z ∧ Hid (Nib.up (fun i => Nib.bt s (s.size - 1 - i) == Nib.bt t (t.size - 1 - i)) (M - A) z = B) ∧ Two wr w.heap.size 0 0 ∧ Two wr (w.heap.size + 1) 0 0 ∧ Below w.heap.size w wr) (fun a _ => (M - A) - (intOf a).toNat)
     case atStart => exact ⟨0, Nat.zero_le _, rfl, HB, R0.drew, R1.drew, BB.drew⟩
     case round =>
      clear R0 R1 BB
      obtain ⟨z, hz, rfl, hu, R0, R1, BB⟩ := hrel
      have ra0 := (R0).c0
      have ra1 := (R0).c1
      have raz := (R0).fz
      have ral := (R0).lt
      have rb0 := (R1).c0
      have rb1 := (R1).c1
      have rbz := (R1).fz
      have rbl := (R1).lt
      have j5 : IntKind.i64.wrap (((t.size : Nat) : Int) - ((A : Nat) : Int)) = ((t.size : Nat) : Int) - ((A : Nat) : Int) := by rw [IntKind.wrap_i64]; omega
      have j6 : IntKind.i64.wrap (((s.size : Nat) : Int) - ((A : Nat) : Int)) = ((s.size : Nat) : Int) - ((A : Nat) : Int) := by rw [IntKind.wrap_i64]; omega
      have j7 : IntKind.i64.wrap (((t.size : Nat) : Int) - ((z : Nat) : Int)) = ((t.size : Nat) : Int) - ((z : Nat) : Int) := by rw [IntKind.wrap_i64]; omega
      have j8 : IntKind.i64.wrap (((s.size : Nat) : Int) - ((z : Nat) : Int)) = ((s.size : Nat) : Int) - ((z : Nat) : Int) := by rw [IntKind.wrap_i64]; omega
      by_cases hlt2 : z < M - A
      ·have z1 : s.size - 1 - z < s.size := by omega
       have z2 : t.size - 1 - z < t.size := by omega
       have j1 : ((s.size : Nat) : Int) - 1 - ((z : Nat) : Int) = ((s.size - 1 - z : Nat) : Int) := by omega
       have j2 : ((t.size : Nat) : Int) - 1 - ((z : Nat) : Int) = ((t.size - 1 - z : Nat) : Int) := by omega
       first | (have i3 : ((z : Nat) : Int) < ((t.size : Nat) : Int) - ((A : Nat) : Int) := by omega) | skip
       first | (have i4 : ((z : Nat) : Int) < ((s.size : Nat) : Int) - ((A : Nat) : Int) := by omega) | skip
       by_cases hc : Nib.bt s (s.size - 1 - z) = Nib.bt t (t.size - 1 - z)
       ·have HS : Hid (Nib.up (fun i => Nib.bt s (s.size - 1 - i) == Nib.bt t (t.size - 1 - i)) (M - A) (z + 1) = B) := by rw [Hid, ← hu.out, Nib.up_step hlt2 (by simp [hc])]
        have HE : ((((s[s.size - 1 - z]'z1).toNat : Nat) : Int) == (((t[t.size - 1 - z]'z2).toNat : Nat) : Int)) = true := by rw [← Nib.bt_in z1, ← Nib.bt_in z2]; simp [hc]
        clear hu hc
        go_wp2_with fail
        go_region
        go_wp2
        go_round
        case rel => exact ⟨z + 1, by omega, by go_num, HS, R0.drew, R1.drew, BB.drew⟩
        case measure => simp [intOf] <;> omega
       ·have HZ : B = z := by rw [← hu.out, Nib.up_stop]; simp [hc]
        have HE : ((((s[s.size - 1 - z]'z1).toNat : Nat) : Int) == (((t[t.size - 1 - z]'z2).toNat : Nat) : Int)) = false := by rw [← Nib.bt_in z1, ← Nib.bt_in z2]; simp [hc]
        clear hu hc
        go_wp2_with fail
        go_region
        go_wp2
        exact qV (.tuple #[.agg #[.int .i64 (A), .int .i64 ((s.size : Int) - z)], .agg #[.int .i64 (A), .int .i64 ((t.size : Int) - z)]]) (by simp [results, Tryz.results85, go_sem, ra0, ra1, raz, ral, rb0, rb1, rbz, rbl]) (by rw [HZ])
      ·exact qt21
   ·have HZ : A = q := by rw [← hu.out, Nib.up_stop]; exact fun h => hlt h.1
    subst HZ
    clear hu
    go_wp2_with fail
    refine wp_region_held_drew (S := fun ww => Two ww w.heap.size 0 0) qk ?_ (fun hHeld => ?_)
    ·exact R0.drew
    refine qT 0 ?_
    simp only [Act.put, qP]
    refine qT 1 ?_
    simp only [Act.put, qP]
    refine wpAnyH_take (i := 2) (v := .bool false) (by simp only [List.getElem?_toArray, List.getElem?_cons_succ, List.getElem?_cons_zero]; rfl) qk qk qk (by exact fun _ _ _ h => h) (Or.inl ⟨by kernel_rfl, fun w hSw => by (try dsimp only at hSw); go_simp; first | done | omega | (simp [hlt]; done)⟩) (by assumption) ?_
    try simp only [Act.put, qP]
    refine qT 3 ?_
    simp only [Act.put, qP]
    refine qS 4 ?_
    simp only [Act.put, qP]
    refine qS 5 ?_
    simp only [Act.put, qP]
    refine qS 6 ?_
    simp only [Act.put, qP]
    refine qS 7 ?_
    simp only [Act.put, qP]
    refine qS 8 ?_
    simp only [Act.put, qP]
    refine qS 9 ?_
    simp only [Act.put, qP]
    refine qS 10 ?_
    simp only [Act.put, qP]
    refine qT 11 ?_
    simp only [Act.put, qP]
    refine wpAnyH_done qk ?_ _
    go_wp2
    go_loopw [8] (fun a wr => ∃ z : Nat, z ≤ M - A ∧ a = .int .i64 z ∧ Hid (Nib.up (fun i => Nib.bt s (s.size - 1 - i) == Nib.bt t (t.size - 1 - i)) (M - A) z = B) ∧ Two wr w.heap.size 0 0 ∧ Two wr (w.heap.size + 1) 0 0 ∧ Below w.heap.size w wr) (fun a _ => (M - A) - (intOf a).toNat)
    case atStart => exact ⟨0, Nat.zero_le _, rfl, HB, R0.drew, R1.drew, BB.drew⟩
    case round =>
     clear R0 R1 BB
     obtain ⟨z, hz, rfl, hu, R0, R1, BB⟩ := hrel
     have ra0 := (R0).c0
     have ra1 := (R0).c1
     have raz := (R0).fz
     have ral := (R0).lt
     have rb0 := (R1).c0
     have rb1 := (R1).c1
     have rbz := (R1).fz
     have rbl := (R1).lt
     have j5 : IntKind.i64.wrap (((t.size : Nat) : Int) - ((A : Nat) : Int)) = ((t.size : Nat) : Int) - ((A : Nat) : Int) := by rw [IntKind.wrap_i64]; omega
     have j6 : IntKind.i64.wrap (((s.size : Nat) : Int) - ((A : Nat) : Int)) = ((s.size : Nat) : Int) - ((A : Nat) : Int) := by rw [IntKind.wrap_i64]; omega
     have j7 : IntKind.i64.wrap (((t.size : Nat) : Int) - ((z : Nat) : Int)) = ((t.size : Nat) : Int) - ((z : Nat) : Int) := by rw [IntKind.wrap_i64]; omega
     have j8 : IntKind.i64.wrap (((s.size : Nat) : Int) - ((z : Nat) : Int)) = ((s.size : Nat) : Int) - ((z : Nat) : Int) := by rw [IntKind.wrap_i64]; omega
     by_cases hlt2 : z < M - A
     ·exact absurd hlt2 qo
     ·exact qt21
abbrev GivesO (f : Nat) (args : Array Value) (s : ByteArray) : Prop :=
 ∃ (a b : Nat) (l is : Bool), a ≤ b ∧ b ≤ s.size ∧ ∀ ww, Calls Tryz.prog f args ww fun e w' => e = .returned (.tuple #[.agg #[.int .i64 a, .int .i64 b, .bool l], .bool is]) ∧ Below ww.heap.size ww w'
theorem oWordL (s : ByteArray) (p : Nat) (wh g : Bool) (hs : s.size ≤ 1000) (hp : p ≤ s.size) : ∃ (a b : Nat) (is : Bool), a ≤ b ∧ b ≤ s.size ∧ ∀ ww, qC 214 #[.agg #[.string s, .int .i64 p, .bool wh], .bool g] ww (.tuple #[.agg #[.int .i64 a, .int .i64 b, .bool false], .bool is]) := by
 obtain ⟨c, d, c1, c2, c3, HR1⟩ := tRun_ex s p g hs hp
 have HR1 : qH 256 #[.string s, .int .i64 p, .bool g] (.agg #[.int .i64 (c), .int .i64 (d)]) := HR1
 by_cases hcd : c = d
 ·subst hcd
  have HE : qH 185 #[.agg #[.int .i64 (c), .int .i64 (c)]] (.bool true) := fun ww => tEmpty_eq c ww
  refine ⟨0, 0, false, Nat.le_refl _, Nat.zero_le _, fun w => ?_⟩
  go_enter Tryz.func214, Tryz.ntmps214
  have G : Tri ((w.alloc (.cells #[.string s, .int .i64 p, .bool wh] 213)).alloc (.cells #[.int .i64 0, .int .i64 0, .bool false] 186)) w.heap.size s p wh := Tri.alloc (Tri.new _ _ _ _ _) _
  have Q : Tre ((w.alloc (.cells #[.string s, .int .i64 p, .bool wh] 213)).alloc (.cells #[.int .i64 0, .int .i64 0, .bool false] 186)) (w.heap.size + 1) 0 0 false := by have := Tre.new (w.alloc (.cells #[.string s, .int .i64 p, .bool wh] 213)) 0 0 false 186; simpa using this
  go_wp2_with fail
  refine (HR1.out _).mono ?_
  rintro r1 w1 ⟨rfl, h1⟩
  obtain ⟨hc1, hf1, hz1⟩ := qb h1
  (try simp at hz1)
  have G1 : Tri w1 (w.heap.size) (s) (p) (wh) := qTi
  have ⟨G1_0, G1_1, G1_2, G1_z, G1_l⟩ := G1
  have Q1 : Tre w1 (w.heap.size + 1) (0) (0) (false) := qTe
  have ⟨Q1_0, Q1_1, Q1_2, Q1_z, Q1_l⟩ := Q1
  clear hc1 hf1
  have E : Two (w1.alloc (.cells #[.int .i64 c, .int .i64 c] 128)) w1.heap.size c c := Two.new _ _ _ _
  go_wp2_with fail
  refine (HE.out _).mono ?_
  rintro r2 w2 ⟨rfl, h2⟩
  obtain ⟨hc2, hf2, hz2⟩ := qb h2
  (try simp at hz2)
  have G2 : Tri w2 (w.heap.size) (s) (p) (wh) := qTi
  have ⟨G2_0, G2_1, G2_2, G2_z, G2_l⟩ := G2
  have Q2 : Tre w2 (w.heap.size + 1) (0) (0) (false) := qTe
  have ⟨Q2_0, Q2_1, Q2_2, Q2_z, Q2_l⟩ := Q2
  have E2 : Two w2 (w1.heap.size) (c) (c) := qTw
  have ⟨E2_0, E2_1, E2_z, E2_l⟩ := E2
  clear hc2 hf2
  go_wp2
  exact qV (.tuple #[.agg #[.int .i64 0, .int .i64 0, .bool false], .bool false]) (by simp [results, Tryz.results214, go_sem, Q2_0, Q2_1, Q2_2, Q2_z, Q2_l]) rfl
 ·have HE : qH 185 #[.agg #[.int .i64 (c), .int .i64 (d)]] (.bool false) := fun ww => tEmpty_ne c d ww hcd
  cases wh with
  | false =>
   refine ⟨c, d, true, by omega, by omega, fun w => ?_⟩
   go_enter Tryz.func214, Tryz.ntmps214
   have G : Tri ((w.alloc (.cells #[.string s, .int .i64 p, .bool false] 213)).alloc (.cells #[.int .i64 0, .int .i64 0, .bool false] 186)) w.heap.size s p false := Tri.alloc (Tri.new _ _ _ _ _) _
   have Q : Tre ((w.alloc (.cells #[.string s, .int .i64 p, .bool false] 213)).alloc (.cells #[.int .i64 0, .int .i64 0, .bool false] 186)) (w.heap.size + 1) 0 0 false := by have := Tre.new (w.alloc (.cells #[.string s, .int .i64 p, .bool false] 213)) 0 0 false 186; simpa using this
   go_wp2_with fail
   refine (HR1.out _).mono ?_
   rintro r1 w1 ⟨rfl, h1⟩
   obtain ⟨hc1, hf1, hz1⟩ := qb h1
   (try simp at hz1)
   have G1 : Tri w1 (w.heap.size) (s) (p) (false) := qTi
   have ⟨G1_0, G1_1, G1_2, G1_z, G1_l⟩ := G1
   have Q1 : Tre w1 (w.heap.size + 1) (0) (0) (false) := qTe
   have ⟨Q1_0, Q1_1, Q1_2, Q1_z, Q1_l⟩ := Q1
   clear hc1 hf1
   have E : Two (w1.alloc (.cells #[.int .i64 c, .int .i64 d] 128)) w1.heap.size c d := Two.new _ _ _ _
   go_wp2_with fail
   refine (HE.out _).mono ?_
   rintro r2 w2 ⟨rfl, h2⟩
   obtain ⟨hc2, hf2, hz2⟩ := qb h2
   (try simp at hz2)
   have G2 : Tri w2 (w.heap.size) (s) (p) (false) := qTi
   have ⟨G2_0, G2_1, G2_2, G2_z, G2_l⟩ := G2
   have Q2 : Tre w2 (w.heap.size + 1) (0) (0) (false) := qTe
   have ⟨Q2_0, Q2_1, Q2_2, Q2_z, Q2_l⟩ := Q2
   have E2 : Two w2 (w1.heap.size) (c) (d) := qTw
   have ⟨E2_0, E2_1, E2_z, E2_l⟩ := E2
   clear hc2 hf2
   go_wp2
   exact qV (.tuple #[.agg #[.int .i64 c, .int .i64 d, .bool false], .bool true]) (by simp [results, Tryz.results214, go_sem, Q2_0, Q2_1, Q2_2, Q2_z, Q2_l]) rfl
  | true =>
   obtain ⟨B, HB⟩ := oBlanks_ex s p c d true qo c3
   cases B with
   | true =>
    have HB : qH 257 #[.agg #[.string s, .int .i64 p, .bool true], .agg #[.int .i64 (c), .int .i64 (d)]] (.bool true) := HB
    obtain ⟨a, b, is, k1, k2, HW⟩ := oBlanksW s p c d true g hs qo c3
    have HW : qH 258 #[.agg #[.string s, .int .i64 p, .bool true], .agg #[.int .i64 (c), .int .i64 (d)], .bool g] (.tuple #[.agg #[.int .i64 a, .int .i64 b, .bool false], .bool is]) := HW
    refine ⟨a, b, is, k1, k2, fun w => ?_⟩
    go_enter Tryz.func214, Tryz.ntmps214
    have G : Tri ((w.alloc (.cells #[.string s, .int .i64 p, .bool true] 213)).alloc (.cells #[.int .i64 0, .int .i64 0, .bool false] 186)) w.heap.size s p true := Tri.alloc (Tri.new _ _ _ _ _) _
    have Q : Tre ((w.alloc (.cells #[.string s, .int .i64 p, .bool true] 213)).alloc (.cells #[.int .i64 0, .int .i64 0, .bool false] 186)) (w.heap.size + 1) 0 0 false := by have := Tre.new (w.alloc (.cells #[.string s, .int .i64 p, .bool true] 213)) 0 0 false 186; simpa using this
    go_wp2_with fail
    refine (HR1.out _).mono ?_
    rintro r1 w1 ⟨rfl, h1⟩
    obtain ⟨hc1, hf1, hz1⟩ := qb h1
    (try simp at hz1)
    have G1 : Tri w1 (w.heap.size) (s) (p) (true) := qTi
    have ⟨G1_0, G1_1, G1_2, G1_z, G1_l⟩ := G1
    have Q1 : Tre w1 (w.heap.size + 1) (0) (0) (false) := qTe
    have ⟨Q1_0, Q1_1, Q1_2, Q1_z, Q1_l⟩ := Q1
    clear hc1 hf1
    have E : Two (w1.alloc (.cells #[.int .i64 c, .int .i64 d] 128)) w1.heap.size c d := Two.new _ _ _ _
    go_wp2_with fail
    refine (HE.out _).mono ?_
    rintro r2 w2 ⟨rfl, h2⟩
    obtain ⟨hc2, hf2, hz2⟩ := qb h2
    (try simp at hz2)
    have G2 : Tri w2 (w.heap.size) (s) (p) (true) := qTi
    have ⟨G2_0, G2_1, G2_2, G2_z, G2_l⟩ := G2
    have Q2 : Tre w2 (w.heap.size + 1) (0) (0) (false) := qTe
    have ⟨Q2_0, Q2_1, Q2_2, Q2_z, Q2_l⟩ := Q2
    have E2 : Two w2 (w1.heap.size) (c) (d) := qTw
    have ⟨E2_0, E2_1, E2_z, E2_l⟩ := E2
    clear hc2 hf2
    go_wp2_with fail
    refine (HB.out _).mono ?_
    rintro r3 w3 ⟨rfl, h3⟩
    obtain ⟨hc3, hf3, hz3⟩ := qb h3
    (try simp at hz3)
    have G3 : Tri w3 (w.heap.size) (s) (p) (true) := qTi
    have ⟨G3_0, G3_1, G3_2, G3_z, G3_l⟩ := G3
    have Q3 : Tre w3 (w.heap.size + 1) (0) (0) (false) := qTe
    have ⟨Q3_0, Q3_1, Q3_2, Q3_z, Q3_l⟩ := Q3
    have E3 : Two w3 (w1.heap.size) (c) (d) := qTw
    have ⟨E3_0, E3_1, E3_z, E3_l⟩ := E3
    clear hc3 hf3
    go_wp2_with fail
    refine (HW.out _).mono ?_
    rintro r4 w4 ⟨rfl, h4⟩
    obtain ⟨hc4, hf4, hz4⟩ := qb h4
    (try simp at hz4)
    have G4 : Tri w4 (w.heap.size) (s) (p) (true) := qTi
    have ⟨G4_0, G4_1, G4_2, G4_z, G4_l⟩ := G4
    have Q4 : Tre w4 (w.heap.size + 1) (0) (0) (false) := qTe
    have ⟨Q4_0, Q4_1, Q4_2, Q4_z, Q4_l⟩ := Q4
    have E4 : Two w4 (w1.heap.size) (c) (d) := qTw
    have ⟨E4_0, E4_1, E4_z, E4_l⟩ := E4
    clear hc4 hf4
    go_wp2
    exact qV (.tuple #[.agg #[.int .i64 a, .int .i64 b, .bool false], .bool is]) (by simp [results, Tryz.results214, go_sem, Q4_0, Q4_1, Q4_2, Q4_z, Q4_l]) rfl
   | false =>
    have HB : qH 257 #[.agg #[.string s, .int .i64 p, .bool true], .agg #[.int .i64 (c), .int .i64 (d)]] (.bool false) := HB
    obtain ⟨a, b, k1, k2, HW⟩ := oWordB s p c d true g hs qo c3
    have HW : qH 259 #[.agg #[.string s, .int .i64 p, .bool true], .agg #[.int .i64 (c), .int .i64 (d)], .bool g] (.agg #[.int .i64 (a), .int .i64 (b)]) := HW
    refine ⟨a, b, true, k1, k2, fun w => ?_⟩
    go_enter Tryz.func214, Tryz.ntmps214
    have G : Tri ((w.alloc (.cells #[.string s, .int .i64 p, .bool true] 213)).alloc (.cells #[.int .i64 0, .int .i64 0, .bool false] 186)) w.heap.size s p true := Tri.alloc (Tri.new _ _ _ _ _) _
    have Q : Tre ((w.alloc (.cells #[.string s, .int .i64 p, .bool true] 213)).alloc (.cells #[.int .i64 0, .int .i64 0, .bool false] 186)) (w.heap.size + 1) 0 0 false := by have := Tre.new (w.alloc (.cells #[.string s, .int .i64 p, .bool true] 213)) 0 0 false 186; simpa using this
    go_wp2_with fail
    refine (HR1.out _).mono ?_
    rintro r1 w1 ⟨rfl, h1⟩
    obtain ⟨hc1, hf1, hz1⟩ := qb h1
    (try simp at hz1)
    have G1 : Tri w1 (w.heap.size) (s) (p) (true) := qTi
    have ⟨G1_0, G1_1, G1_2, G1_z, G1_l⟩ := G1
    have Q1 : Tre w1 (w.heap.size + 1) (0) (0) (false) := qTe
    have ⟨Q1_0, Q1_1, Q1_2, Q1_z, Q1_l⟩ := Q1
    clear hc1 hf1
    have E : Two (w1.alloc (.cells #[.int .i64 c, .int .i64 d] 128)) w1.heap.size c d := Two.new _ _ _ _
    go_wp2_with fail
    refine (HE.out _).mono ?_
    rintro r2 w2 ⟨rfl, h2⟩
    obtain ⟨hc2, hf2, hz2⟩ := qb h2
    (try simp at hz2)
    have G2 : Tri w2 (w.heap.size) (s) (p) (true) := qTi
    have ⟨G2_0, G2_1, G2_2, G2_z, G2_l⟩ := G2
    have Q2 : Tre w2 (w.heap.size + 1) (0) (0) (false) := qTe
    have ⟨Q2_0, Q2_1, Q2_2, Q2_z, Q2_l⟩ := Q2
    have E2 : Two w2 (w1.heap.size) (c) (d) := qTw
    have ⟨E2_0, E2_1, E2_z, E2_l⟩ := E2
    clear hc2 hf2
    go_wp2_with fail
    refine (HB.out _).mono ?_
    rintro r3 w3 ⟨rfl, h3⟩
    obtain ⟨hc3, hf3, hz3⟩ := qb h3
    (try simp at hz3)
    have G3 : Tri w3 (w.heap.size) (s) (p) (true) := qTi
    have ⟨G3_0, G3_1, G3_2, G3_z, G3_l⟩ := G3
    have Q3 : Tre w3 (w.heap.size + 1) (0) (0) (false) := qTe
    have ⟨Q3_0, Q3_1, Q3_2, Q3_z, Q3_l⟩ := Q3
    have E3 : Two w3 (w1.heap.size) (c) (d) := qTw
    have ⟨E3_0, E3_1, E3_z, E3_l⟩ := E3
    clear hc3 hf3
    go_wp2_with fail
    refine (HW.out _).mono ?_
    rintro r4 w4 ⟨rfl, h4⟩
    obtain ⟨hc4, hf4, hz4⟩ := qb h4
    (try simp at hz4)
    have G4 : Tri w4 (w.heap.size) (s) (p) (true) := qTi
    have ⟨G4_0, G4_1, G4_2, G4_z, G4_l⟩ := G4
    have Q4 : Tre w4 (w.heap.size + 1) (0) (0) (false) := qTe
    have ⟨Q4_0, Q4_1, Q4_2, Q4_z, Q4_l⟩ := Q4
    have E4 : Two w4 (w1.heap.size) (c) (d) := qTw
    have ⟨E4_0, E4_1, E4_z, E4_l⟩ := E4
    clear hc4 hf4
    go_wp2
    exact qV (.tuple #[.agg #[.int .i64 a, .int .i64 b, .bool false], .bool true]) (by simp [results, Tryz.results214, go_sem, Q4_0, Q4_1, Q4_2, Q4_z, Q4_l]) rfl
theorem oWord (s : ByteArray) (p : Nat) (wh g : Bool) (hs : s.size ≤ 1000) (hp : p ≤ s.size) : GivesO 214 #[.agg #[.string s, .int .i64 p, .bool wh], .bool g] s := by
 obtain ⟨a, b, is, h1, h2, H⟩ := oWordL s p wh g hs hp
 exact ⟨a, b, false, is, h1, h2, H⟩
end Go.Proofs.YtlendfhehhacpaaGreat
