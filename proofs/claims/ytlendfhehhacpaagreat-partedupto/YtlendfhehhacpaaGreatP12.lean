/- A part. -/
import Derived.Test.YtlendfhehhacpaaGreatP05
import Derived.Test.YtlendfhehhacpaaGreatP04
import Derived.Test.YtlendfhehhacpaaGreatP03
import Derived.Laws.RangeString
import Derived.Deep.LoopGhost
set_option linter.unusedVariables false
set_option linter.unusedSimpArgs false
set_option maxRecDepth 100000
set_option maxHeartbeats 8000000
namespace Go.Proofs.YtlendfhehhacpaaGreat
open Go.RowKit
theorem qt83 {P : Prop} (h : P := by
  go_wp2
  refine bodyPost_ret (v := .int .i64 q) (by simp [results, Tryz.results250, go_sem]) rfl ⟨rfl, ?_⟩
  repeat (with_reducible first | exact Below.refl _ _ | refine b_s ?_ _ | refine b_a ?_ _ | refine Below.drew ?_ | refine below_drewN ?_ _ | refine b_t ?_ h2 | refine b_t ?_ h1)
 ) : P := h
theorem sKept_same (s : ByteArray) (p q C D : Nat) (w : World)
  (G1 : qH 195 #[.string s, .int .i64 p] (.agg #[.int .i64 (C), .int .i64 (D)]))
  (G2 : qH 195 #[.string s, .int .i64 q] (.agg #[.int .i64 (C), .int .i64 (D)])) :
  qC 250 #[.string s, .int .i64 p, .int .i64 q] w (.int .i64 q) := by
 have HQ : ∀ ww, (binOp .neq 128 (.agg #[.int .i64 (C), .int .i64 (D)]) (.agg #[.int .i64 (C), .int .i64 (D)])).run Tryz.prog ww = .ok (.bool false) ww := by intro ww; rw [neq_two]; simp
 go_enter Tryz.func250, Tryz.ntmps250
 go_wp2_with fail
 refine (G1.out _).mono ?_
 rintro e w1 ⟨rfl, h1⟩
 obtain ⟨hc1, hf1, hz1⟩ := qb h1
 try simp at hz1
 go_wp2_with fail
 refine wp_region_held_drew (S := fun ww => ww.cell? ⟨w1.heap.size, 0, none⟩ = some (.int .i64 C) ∧ ww.cell? ⟨w1.heap.size, 1, none⟩ = some (.int .i64 D)) qk ?_ (fun hHeld => ?_)
 ·refine ⟨?_, ?_⟩ <;> go_simp
 refine qT 0 ?_
 try simp only [Act.put, qP]
 refine qT 1 ?_
 try simp only [Act.put, qP]
 refine qT 3 ?_
 try simp only [Act.put, qP]
 refine qR 2 fun K hK => ?_
 rw [if_pos (by rfl)]
 go_wp2_with fail
 refine (G2.out _).mono ?_
 rintro r2 w2 ⟨rfl, h2⟩
 obtain ⟨hc2, hf2, hz2⟩ := qb h2
 (try simp at hz2)
 go_wp2_with fail
 refine hK.out _ _ ?_ (fun hHeld => ?_)
 ·refine ⟨(hc2 _ _ qi).trans hHeld.1, (hc2 _ _ qi).trans hHeld.2⟩
 clear hK K
 try simp only [Act.put, qP]
 refine qT 4 ?_
 try simp only [Act.put, qP]
 refine qT 5 ?_
 try simp only [Act.put, qP]
 refine qS 6 ?_
 try simp only [Act.put, qP]
 refine qS 7 ?_
 try simp only [Act.put, qP]
 refine qS 8 ?_
 try simp only [Act.put, qP]
 refine qS 9 ?_
 try simp only [Act.put, qP]
 refine qT 10 ?_
 try simp only [Act.put, qP]
 refine wpAnyH_done qk ?_ _
 exact qt83
theorem sKept_other (s : ByteArray) (p q A B C D : Nat) (w : World) (hx : ¬ (C = A ∧ D = B))
  (G1 : qH 195 #[.string s, .int .i64 p] (.agg #[.int .i64 (A), .int .i64 (B)]))
  (G2 : qH 195 #[.string s, .int .i64 q] (.agg #[.int .i64 (C), .int .i64 (D)])) :
  qC 250 #[.string s, .int .i64 p, .int .i64 q] w (.int .i64 ((if p = B then q else B : Nat) : Int)) := by
 have HQ : ∀ ww, (binOp .neq 128 (.agg #[.int .i64 (C), .int .i64 (D)]) (.agg #[.int .i64 (A), .int .i64 (B)])).run Tryz.prog ww = .ok (.bool true) ww := by
  intro ww; rw [neq_two]; congr 2; simp only [Bool.not_eq_true', Bool.and_eq_false_imp, beq_iff_eq, beq_eq_false_iff_ne]; omega
 clear hx
 by_cases hpB : p = B
 ·rw [if_pos hpB]
  subst hpB
  go_enter Tryz.func250, Tryz.ntmps250
  go_wp2_with fail
  refine (G1.out _).mono ?_
  rintro e w1 ⟨rfl, h1⟩
  obtain ⟨hc1, hf1, hz1⟩ := qb h1
  try simp at hz1
  go_wp2_with fail
  go_wp2_with fail
  go_region_held3 (fun ww => ww.cell? ⟨w1.heap.size, 0, none⟩ = some (.int .i64 A) ∧ ww.cell? ⟨w1.heap.size, 1, none⟩ = some (.int .i64 p)) ((refine ⟨?_, ?_⟩ <;> go_simp)) ((go_at_call 195; refine (G2.out _).mono ?_; rintro r2 w2 ⟨rfl, h2⟩; obtain ⟨hc2, hf2, hz2⟩ := qb h2; (try simp at hz2); (try have ⟨hl2_0, hk2_0⟩ := qL w1.heap.size w2.heap.size)))
  exact qt83
 ·rw [if_neg hpB]
  have hb : ((p : Int) = B) = False := by simp; omega
  clear hpB
  go_enter Tryz.func250, Tryz.ntmps250
  go_wp2_with fail
  refine (G1.out _).mono ?_
  rintro e w1 ⟨rfl, h1⟩
  obtain ⟨hc1, hf1, hz1⟩ := qb h1
  try simp at hz1
  go_wp2_with fail
  go_wp2_with fail
  go_region_held3 (fun ww => ww.cell? ⟨w1.heap.size, 0, none⟩ = some (.int .i64 A) ∧ ww.cell? ⟨w1.heap.size, 1, none⟩ = some (.int .i64 B)) ((refine ⟨?_, ?_⟩ <;> go_simp)) ((go_at_call 195; refine (G2.out _).mono ?_; rintro r2 w2 ⟨rfl, h2⟩; obtain ⟨hc2, hf2, hz2⟩ := qb h2; (try simp at hz2); (try have ⟨hl2_0, hk2_0⟩ := qL w1.heap.size w2.heap.size)))
  go_wp2
  ·refine bodyPost_ret (v := .int .i64 B) (by simp [results, Tryz.results250, go_sem]) rfl ⟨rfl, ?_⟩
   repeat (with_reducible first | exact Below.refl _ _ | refine b_s ?_ _ | refine b_a ?_ _ | refine Below.drew ?_ | refine below_drewN ?_ _ | refine b_t ?_ h2 | refine b_t ?_ h1)
  ·rename_i hh; exact absurd hh (by simp [hb])
theorem sKept_any (s : ByteArray) (p q : Nat) (w : World) (hs : s.size ≤ 1000) (hp : p ≤ s.size) (hq : q ≤ s.size) :
  qC 250 #[.string s, .int .i64 p, .int .i64 q] w (.int .i64 ((if ¬ (Nib.beg s q = Nib.beg s p ∧ Nib.fin s q = Nib.fin s p) ∧ Nib.fin s p ≠ p then Nib.fin s p else q : Nat) : Int)) := by
 have G1 : qH 195 #[.string s, .int .i64 p] (.agg #[.int .i64 (Nib.beg s p), .int .i64 (Nib.fin s p)]) := fun ww => tLine_any s p p ww hs rfl hp
 have G2 : qH 195 #[.string s, .int .i64 q] (.agg #[.int .i64 (Nib.beg s q), .int .i64 (Nib.fin s q)]) := fun ww => tLine_any s q q ww hs rfl hq
 by_cases hx : Nib.beg s q = Nib.beg s p ∧ Nib.fin s q = Nib.fin s p
 ·rw [if_neg (by simp [hx])]
  rw [hx.1, hx.2] at G2
  exact sKept_same s p q _ _ w G1 G2
 ·have := sKept_other s p q _ _ _ _ w hx G1 G2
  by_cases hb : Nib.fin s p = p
  ·rw [if_neg (by simp [hb])]; rw [if_pos hb.symm] at this; exact this
  ·rw [if_pos ⟨hx, hb⟩]; rw [if_neg (fun h => hb h.symm)] at this; exact this
theorem sTaken_out (s : ByteArray) (p n q : Int) (v c : Bool) (w : World) :
  qC 203 #[.agg #[.string s, .int .i64 (p), .int .i64 (n), .bool v, .bool c], .agg #[.int .i64 (q), .int .i64 (0)]] w (.agg #[.int .i64 (min p q), .int .i64 (max p q), .bool false]) := by
 rcases Int.lt_trichotomy p q with h | h | h
 ·rw [show min p q = p by omega, show max p q = q by omega]
  go_enter Tryz.func203, Tryz.ntmps203
  go_wp2
  refine bodyPost_ret (v := .agg #[.int .i64 p, .int .i64 q, .bool false]) (by simp [results, Tryz.results203, go_sem]) rfl ⟨rfl, ?_⟩
  repeat (with_reducible first | exact Below.refl _ _ | refine b_s ?_ _ | refine b_a ?_ _ | refine Below.drew ?_ | refine below_drewN ?_ _)
 ·subst h; rw [Int.min_self, Int.max_self]
  go_enter Tryz.func203, Tryz.ntmps203
  go_wp2
  refine bodyPost_ret (v := .agg #[.int .i64 p, .int .i64 p, .bool false]) (by simp [results, Tryz.results203, go_sem]) rfl ⟨rfl, ?_⟩
  repeat (with_reducible first | exact Below.refl _ _ | refine b_s ?_ _ | refine b_a ?_ _ | refine Below.drew ?_ | refine below_drewN ?_ _)
 ·rw [show min p q = q by omega, show max p q = p by omega]
  go_enter Tryz.func203, Tryz.ntmps203
  go_wp2
  refine bodyPost_ret (v := .agg #[.int .i64 q, .int .i64 p, .bool false]) (by simp [results, Tryz.results203, go_sem]) rfl ⟨rfl, ?_⟩
  repeat (with_reducible first | exact Below.refl _ _ | refine b_s ?_ _ | refine b_a ?_ _ | refine Below.drew ?_ | refine below_drewN ?_ _)
theorem sTaken_in (s : ByteArray) (p n q : Int) (v c : Bool) (w : World) (hp : 0 ≤ p ∧ p ≤ 5000) (hq : 0 ≤ q ∧ q ≤ 5000) :
  qC 203 #[.agg #[.string s, .int .i64 (p), .int .i64 (n), .bool v, .bool c], .agg #[.int .i64 (q), .int .i64 (1)]] w (.agg #[.int .i64 (min p q), .int .i64 (max p q + 1), .bool false]) := by
 rcases Int.lt_trichotomy p q with h | h | h
 ·rw [show min p q = p by omega, show max p q = q by omega]
  go_enter Tryz.func203, Tryz.ntmps203
  go_wp2
  refine bodyPost_ret (v := .agg #[.int .i64 p, .int .i64 (q + 1), .bool false]) (by simp [results, Tryz.results203, go_sem]) rfl ⟨rfl, ?_⟩
  repeat (with_reducible first | exact Below.refl _ _ | refine b_s ?_ _ | refine b_a ?_ _ | refine Below.drew ?_ | refine below_drewN ?_ _)
 ·subst h; rw [Int.min_self, Int.max_self]
  go_enter Tryz.func203, Tryz.ntmps203
  go_wp2
  refine bodyPost_ret (v := .agg #[.int .i64 p, .int .i64 (p + 1), .bool false]) (by simp [results, Tryz.results203, go_sem]) rfl ⟨rfl, ?_⟩
  repeat (with_reducible first | exact Below.refl _ _ | refine b_s ?_ _ | refine b_a ?_ _ | refine Below.drew ?_ | refine below_drewN ?_ _)
 ·rw [show min p q = q by omega, show max p q = p by omega]
  go_enter Tryz.func203, Tryz.ntmps203
  go_wp2
  refine bodyPost_ret (v := .agg #[.int .i64 q, .int .i64 (p + 1), .bool false]) (by simp [results, Tryz.results203, go_sem]) rfl ⟨rfl, ?_⟩
  repeat (with_reducible first | exact Below.refl _ _ | refine b_s ?_ _ | refine b_a ?_ _ | refine Below.drew ?_ | refine below_drewN ?_ _)
theorem qt19 {P : Prop} (h : P := by
  go_enter Tryz.func203, Tryz.ntmps203
  go_wp2_with fail
  refine (HL.out _).mono ?_
  rintro e w1 ⟨rfl, h1⟩
  obtain ⟨hc1, hf1, hz1⟩ := qb h1
  try simp at hz1
  have l1 : w.heap.size + 1 + 1 < w1.heap.size := by omega
  have z0 : ∀ o, w1.frozen? ⟨w.heap.size + 1 + 1, o, none⟩ = false := by intro o; rw [hf1 _ _ qi]; go_simp
  have c1 : w1.cell? ⟨w.heap.size + 1 + 1, 0, none⟩ = some (.int .i64 0) := by rw [hc1 _ _ qi]; go_simp
  have c2 : w1.cell? ⟨w.heap.size + 1 + 1, 1, none⟩ = some (.int .i64 0) := by rw [hc1 _ _ qi]; go_simp
  have c3 : w1.cell? ⟨w.heap.size + 1 + 1, 2, none⟩ = some (.bool false) := by rw [hc1 _ _ qi]; go_simp
  clear hc1 hf1
  go_wp2
  refine bodyPost_ret (v := .agg #[.int .i64 X, .int .i64 Y, .bool true]) (by simp [results, Tryz.results203, go_sem, c1, c2, c3, z0, l1]) rfl ⟨rfl, ?_⟩
  repeat (with_reducible first | exact Below.refl _ _ | refine b_s ?_ _ | refine b_a ?_ _ | refine Below.drew ?_ | refine below_drewN ?_ _ | refine b_t ?_ h1)
 ) : P := h
theorem sTaken_lines (s : ByteArray) (p q : Nat) (n : Int) (v c : Bool) (w : World) (hs : s.size ≤ 1000) (hp : p ≤ s.size) (hq : q ≤ s.size) :
  qC 203 #[.agg #[.string s, .int .i64 (p), .int .i64 (n), .bool v, .bool c], .agg #[.int .i64 (q), .int .i64 (2)]] w (.agg #[.int .i64 (min (Nib.beg s p) (Nib.beg s q)), .int .i64 (max (Nib.fin s p) (Nib.fin s q)), .bool true]) := by
 rcases Nat.lt_trichotomy p q with h | h | h
 ·have HL : qH 182 #[.string s, .int .i64 p, .int .i64 q] (.agg #[.int .i64 (min (Nib.beg s p) (Nib.beg s q)), .int .i64 (max (Nib.fin s p) (Nib.fin s q)), .bool true]) := fun ww => tLines_any s p q p q ww hs rfl rfl hp hq
  generalize min (Nib.beg s p : Int) (Nib.beg s q) = X at *
  generalize max (Nib.fin s p : Int) (Nib.fin s q) = Y at *
  exact qt19
 ·subst h
  have HL : qH 182 #[.string s, .int .i64 p, .int .i64 p] (.agg #[.int .i64 (min (Nib.beg s p) (Nib.beg s p)), .int .i64 (max (Nib.fin s p) (Nib.fin s p)), .bool true]) := fun ww => tLines_any s p p p p ww hs rfl rfl hp hp
  generalize min (Nib.beg s p : Int) (Nib.beg s p) = X at *
  generalize max (Nib.fin s p : Int) (Nib.fin s p) = Y at *
  exact qt19
 ·have HL : qH 182 #[.string s, .int .i64 q, .int .i64 p] (.agg #[.int .i64 (min (Nib.beg s p) (Nib.beg s q)), .int .i64 (max (Nib.fin s p) (Nib.fin s q)), .bool true]) := by
   intro ww
   rw [Int.min_comm, Int.max_comm]
   exact tLines_any s q p q p ww hs rfl rfl hq hp
  generalize min (Nib.beg s p : Int) (Nib.beg s q) = X at *
  generalize max (Nib.fin s p : Int) (Nib.fin s q) = Y at *
  exact qt19
structure Tri (w : World) (b : Nat) (s : ByteArray) (p : Int) (v : Bool) : Prop where
 c0 : w.cell? ⟨b, 0, none⟩ = some (.string s)
 c1 : w.cell? ⟨b, 1, none⟩ = some (.int .i64 p)
 c2 : w.cell? ⟨b, 2, none⟩ = some (.bool v)
 fz : ∀ o, w.frozen? ⟨b, o, none⟩ = false
 lt : b < w.heap.size
theorem Tri.of_block {w w' : World} {b : Nat} {s : ByteArray} {p : Int} {v : Bool} (h : Tri w b s p v) (hb : w'.heap[b]? = w.heap[b]?) (hz : w.heap.size ≤ w'.heap.size) : Tri w' b s p v := by
 have hc : ∀ o, w'.cell? ⟨b, o, none⟩ = w.cell? ⟨b, o, none⟩ := fun o => World.cell?_of_block (w := w) hb
 have hf : ∀ o, w'.frozen? ⟨b, o, none⟩ = w.frozen? ⟨b, o, none⟩ := fun o => World.frozen?_of_block (w := w) hb
 exact ⟨(hc _).trans h.c0, (hc _).trans h.c1, (hc _).trans h.c2, fun o => (hf o).trans (h.fz o), Nat.lt_of_lt_of_le h.lt hz⟩
theorem Tri.below {w w' : World} {b : Nat} {s : ByteArray} {p : Int} {v : Bool} (h : Tri w b s p v) (hb : Below w.heap.size w w') : Tri w' b s p v := h.of_block (hb.block b h.lt) hb.size
theorem Tri.alloc {w : World} {b : Nat} {s : ByteArray} {p : Int} {v : Bool} (h : Tri w b s p v) (o : Obj) : Tri (w.alloc o) b s p v := h.below ((Below.refl _ _).alloc (Nat.le_refl _) _)
theorem Tri.drewN {w : World} {b : Nat} {s : ByteArray} {p : Int} {v : Bool} (h : Tri w b s p v) (k : Nat) : Tri (w.drewN k) b s p v := h.below (below_drewN (Below.refl _ _) _)
theorem Tri.drew {w : World} {b : Nat} {s : ByteArray} {p : Int} {v : Bool} (h : Tri w b s p v) : Tri w.drew b s p v := h.below (Below.refl _ _).drew
theorem Tri.other {w : World} {b : Nat} {s : ByteArray} {p : Int} {v : Bool} (h : Tri w b s p v) {q : Addr} (hp : b ≠ q.block) (u : Value) : Tri (w.setCell q u) b s p v :=
 h.of_block (Below.heap_setCell _ _ _ _ hp) (by simp [World.setCell])
theorem Tri.new (w : World) (s : ByteArray) (p : Int) (v : Bool) (t : TypeId) : Tri (w.alloc (.cells #[.string s, .int .i64 p, .bool v] t)) w.heap.size s p v :=
 ⟨by simp, by simp, by simp, by simp, by simp⟩
structure Tre (w : World) (b : Nat) (s p : Int) (v : Bool) : Prop where
 c0 : w.cell? ⟨b, 0, none⟩ = some (.int .i64 s)
 c1 : w.cell? ⟨b, 1, none⟩ = some (.int .i64 p)
 c2 : w.cell? ⟨b, 2, none⟩ = some (.bool v)
 fz : ∀ o, w.frozen? ⟨b, o, none⟩ = false
 lt : b < w.heap.size
theorem Tre.of_block {w w' : World} {b : Nat} {s p : Int} {v : Bool} (h : Tre w b s p v) (hb : w'.heap[b]? = w.heap[b]?) (hz : w.heap.size ≤ w'.heap.size) : Tre w' b s p v := by
 have hc : ∀ o, w'.cell? ⟨b, o, none⟩ = w.cell? ⟨b, o, none⟩ := fun o => World.cell?_of_block (w := w) hb
 have hf : ∀ o, w'.frozen? ⟨b, o, none⟩ = w.frozen? ⟨b, o, none⟩ := fun o => World.frozen?_of_block (w := w) hb
 exact ⟨(hc _).trans h.c0, (hc _).trans h.c1, (hc _).trans h.c2, fun o => (hf o).trans (h.fz o), Nat.lt_of_lt_of_le h.lt hz⟩
theorem Tre.below {w w' : World} {b : Nat} {s p : Int} {v : Bool} (h : Tre w b s p v) (hb : Below w.heap.size w w') : Tre w' b s p v := h.of_block (hb.block b h.lt) hb.size
theorem Tre.alloc {w : World} {b : Nat} {s p : Int} {v : Bool} (h : Tre w b s p v) (o : Obj) : Tre (w.alloc o) b s p v := h.below ((Below.refl _ _).alloc (Nat.le_refl _) _)
theorem Tre.drewN {w : World} {b : Nat} {s p : Int} {v : Bool} (h : Tre w b s p v) (k : Nat) : Tre (w.drewN k) b s p v := h.below (below_drewN (Below.refl _ _) _)
theorem Tre.drew {w : World} {b : Nat} {s p : Int} {v : Bool} (h : Tre w b s p v) : Tre w.drew b s p v := h.below (Below.refl _ _).drew
theorem Tre.other {w : World} {b : Nat} {s p : Int} {v : Bool} (h : Tre w b s p v) {q : Addr} (hp : b ≠ q.block) (u : Value) : Tre (w.setCell q u) b s p v :=
 h.of_block (Below.heap_setCell _ _ _ _ hp) (by simp [World.setCell])
theorem Tre.new (w : World) (s p : Int) (v : Bool) (t : TypeId) : Tre (w.alloc (.cells #[.int .i64 s, .int .i64 p, .bool v] t)) w.heap.size s p v :=
 ⟨by simp, by simp, by simp, by simp, by simp⟩
theorem tRun_ex (s : ByteArray) (k : Nat) (g : Bool) (hs : s.size ≤ 1000) (hk : k ≤ s.size) :
  ∃ i j : Nat, i ≤ k ∧ k ≤ j ∧ j ≤ s.size ∧ ∀ ww, qC 256 #[.string s, .int .i64 k, .bool g] ww (.agg #[.int .i64 (i), .int .i64 (j)]) := by
 by_cases hn : k < s.size ∧ Nib.bt s k ≠ 10
 ·exact ⟨Nib.runB s k g, Nib.wrun s k g, Nib.runB_le s k g, Nib.wrun_ge s k g, Nib.wrun_le hk, fun ww => tRun_any s k k g ww hs rfl hn.1 hn.2⟩
 ·exact ⟨k, k, Nat.le_refl _, Nat.le_refl _, hk, fun ww => tRun_none s k k g ww hs rfl hk (fun h => by
   by_cases e : Nib.bt s k = 10
   ·exact e
   ·exact absurd ⟨h, e⟩ hn)⟩
theorem oPair (s : ByteArray) (p a b : Int) (wh : Bool) (w : World) (ha : -5000 ≤ a ∧ a ≤ 5000) (hb : -5000 ≤ b ∧ b ≤ 5000) :
  qC 261 #[.agg #[.string s, .int .i64 p, .bool wh], .agg #[.int .i64 (a), .int .i64 (b)]] w (.agg #[.int .i64 (if wh then a else a + 1), .int .i64 (if wh then b else b - 1), .bool false]) := by
 have hwr1 : IntKind.i64.wrap (a + 1) = a + 1 := by rw [IntKind.wrap_i64]; omega
 have hwr2 : IntKind.i64.wrap (b - 1) = b - 1 := by rw [IntKind.wrap_i64]; omega
 cases wh
 ·go_enter Tryz.func261, Tryz.ntmps261
  go_wp2
  refine bodyPost_ret (v := .agg #[.int .i64 (a + 1), .int .i64 (b - 1), .bool false]) (by simp [results, Tryz.results261, go_sem]) rfl ⟨rfl, ?_⟩
  repeat (with_reducible first | exact Below.refl _ _ | refine b_s ?_ _ | refine b_a ?_ _ | refine Below.drew ?_ | refine below_drewN ?_ _)
 ·go_enter Tryz.func261, Tryz.ntmps261
  go_wp2
  refine bodyPost_ret (v := .agg #[.int .i64 a, .int .i64 b, .bool false]) (by simp [results, Tryz.results261, go_sem]) rfl ⟨rfl, ?_⟩
  repeat (with_reducible first | exact Below.refl _ _ | refine b_s ?_ _ | refine b_a ?_ _ | refine Below.drew ?_ | refine below_drewN ?_ _)
theorem oBlanks_none (s : ByteArray) (p a : Int) (wh : Bool) (w : World) :
  qC 257 #[.agg #[.string s, .int .i64 p, .bool wh], .agg #[.int .i64 (a), .int .i64 (a)]] w (.bool false) := by
 have HE : qH 185 #[.agg #[.int .i64 (a), .int .i64 (a)]] (.bool true) := by
  intro ww
  have := tIsEmpty_any a a ww
  rw [show (a == a) = true by simp] at this
  exact this
 go_enter Tryz.func257, Tryz.ntmps257
 go_wp2_with fail
 refine (HE.out _).mono ?_
 rintro e w1 ⟨rfl, h1⟩
 obtain ⟨hc1, hf1, hz1⟩ := qb h1
 try simp at hz1
 go_wp2
 refine bodyPost_ret (v := .bool false) (by simp [results, Tryz.results257, go_sem]) rfl ⟨rfl, ?_⟩
 repeat (with_reducible first | exact Below.refl _ _ | refine b_s ?_ _ | refine b_a ?_ _ | refine Below.drew ?_ | refine below_drewN ?_ _ | refine b_t ?_ h1)
theorem oBlanks_some (s : ByteArray) (p : Int) (i j : Nat) (wh : Bool) (w : World) (hij : i < j) (hj : j ≤ s.size) :
  qC 257 #[.agg #[.string s, .int .i64 p, .bool wh], .agg #[.int .i64 (i), .int .i64 (j)]] w (.bool (Nib.cls ((((s[i]'(by omega)).toNat : Nat) : Int)) false == 0)) := by
 have HE : qH 185 #[.agg #[.int .i64 (i), .int .i64 (j)]] (.bool false) := by
  intro ww
  have := tIsEmpty_any i j ww
  rw [show ((i : Int) == j) = false by simp; omega] at this
  exact this
 have hi : i < s.size := by omega
 have HC : Hid (∀ ww, Calls Tryz.prog 225 #[.int .u8 ((((s[i]'hi).toNat : Nat) : Int)), .bool false] ww fun e w' => e = .returned (.int .i64 (Nib.cls ((((s[i]'hi).toNat : Nat) : Int)) false)) ∧ w' = ww) := fun ww => tClass_any _ false ww
 generalize Nib.cls ((((s[i]'(by omega)).toNat : Nat) : Int)) false = X at *
 have i1 : ((i : Nat) : Int) < ((s.size : Nat) : Int) := by omega
 go_enter Tryz.func257, Tryz.ntmps257
 go_wp2_with fail
 refine (HE.out _).mono ?_
 rintro e w1 ⟨rfl, h1⟩
 obtain ⟨hc1, hf1, hz1⟩ := qb h1
 try simp at hz1
 have z1 : w.heap.size < w1.heap.size := by omega
 go_wp2_with fail
 refine (HC.out _).mono ?_
 rintro e w' ⟨rfl, rfl⟩
 go_wp2
 refine bodyPost_ret (v := .bool (X == 0)) (by simp [results, Tryz.results257, go_sem]) rfl ⟨rfl, ?_⟩
 repeat (with_reducible first | exact Below.refl _ _ | refine b_s ?_ _ | refine b_a ?_ _ | refine Below.drew ?_ | refine below_drewN ?_ _ | refine b_t ?_ h1)
theorem oBlanks_ex (s : ByteArray) (p : Int) (i j : Nat) (wh : Bool) (hij : i ≤ j) (hj : j ≤ s.size) :
  ∃ B : Bool, ∀ ww, qC 257 #[.agg #[.string s, .int .i64 p, .bool wh], .agg #[.int .i64 (i), .int .i64 (j)]] ww (.bool B) := by
 by_cases h : i = j
 ·subst h
  exact ⟨false, fun ww => oBlanks_none s p i wh ww⟩
 ·exact ⟨_, fun ww => oBlanks_some s p i j wh ww qo hj⟩
theorem qTi {w : World} {b : Nat} {s : ByteArray} {p : Int} {v : Bool} (h : Tri w b s p v := by repeat (with_reducible first | assumption | refine Tri.other ?_ (by first | omega | (simp <;> omega)) _ | refine Tri.alloc ?_ _ | refine Tri.drewN ?_ _ | refine Tri.drew ?_ | refine Tri.below ?_ (by with_reducible assumption))) : Tri w b s p v := h
theorem qTe {w : World} {b : Nat} {s p : Int} {v : Bool} (h : Tre w b s p v := by repeat (with_reducible first | assumption | refine Tre.other ?_ (by first | omega | (simp <;> omega)) _ | refine Tre.alloc ?_ _ | refine Tre.drewN ?_ _ | refine Tre.drew ?_ | refine Tre.below ?_ (by with_reducible assumption))) : Tre w b s p v := h
def kBr : ByteArray := ⟨#[40, 41, 91, 93, 123, 125]⟩
theorem br_lt (i : Nat) (hi : i < kBr.size) : (kBr[i]'hi).toNat < 128 := by
 have hall : ∀ k : Fin 6, (kBr[k.1]'k.2).toNat < 128 := by decide
 exact hall ⟨i, hi⟩
theorem iter_below (w : World) (s : ByteArray) (p : Nat) : Below w.heap.size w (w.iter s p) := (Below.refl _ _).alloc (Nat.le_refl _) _
theorem idxRune_err (w : World) :
  qC 284 #[.string kBr, .int .i32 65533] w (.int .i64 (-1)) := by
 go_enter Tryz.func284, Tryz.ntmps284
 go_wp2
 go_loopg [5, 6] 6 (fun g _ _ wx => ∃ i : Nat, i + g = 6 ∧ wx = w.iter kBr i)
 case atStart => exact ⟨0, by omega, rfl⟩
 case round =>
  obtain ⟨i, hig, rfl⟩ := hrel
  cases gk with
  | zero =>
   obtain rfl : i = 6 := by omega
   have hnx := fun ty => run_next_end (P := Tryz.prog) w kBr 6 ty qd
   go_wp2
   go_ret
   exact ⟨rfl, iter_below _ _ _⟩
  | succ g =>
   have hi : i < kBr.size := by show i < 6; omega
   have ha : (kBr[i]'hi).toNat < 128 := br_lt i hi
   have hnx := fun ty => run_next_ascii (P := Tryz.prog) w kBr i ty hi ha
   have hne : (((kBr[i]'hi).toNat : Int) == 65533) = false := by simp; omega
   generalize (kBr[i]'hi).toNat = X at *
   go_wp2
   go_roundg g
   case measure => omega
   case rel => exact ⟨i + 1, by omega, rfl⟩
theorem validRune (r : Int) (w : World) (h : 0 ≤ r ∧ (r < 55296 ∨ (57344 ≤ r ∧ r ≤ 1114111))) :
  Calls Tryz.prog 297 #[.int .i32 r] w fun e w' => e = .returned (.bool true) ∧ w' = w := by
 by_cases h1 : r < 55296
 ·have h0 : 0 ≤ r := h.1
  clear h
  go_enter Tryz.func297, Tryz.ntmps297
  go_wp2
  all_goals
   go_ret
   exact ⟨rfl, rfl⟩
 ·have h2 : 57343 < r := by omega
  have h3 : r ≤ 1114111 := by omega
  have h0 : 0 ≤ r := h.1
  clear h
  go_enter Tryz.func297, Tryz.ntmps297
  go_wp2
  all_goals
   go_ret
   exact ⟨rfl, rfl⟩
theorem firstIdx_none (s : ByteArray) (c : UInt8) (h : ∀ i, (hi : i < s.size) → s[i]'hi ≠ c) : firstIdx s c = -1 := by
 have hf : (List.range s.size).find? (fun i => s[i]! == c) = none := by
  rw [List.find?_eq_none]
  intro i hi
  have hi' : i < s.size := List.mem_range.1 hi
  have := h i hi'
  rw [getElem!_pos s i hi']
  simpa using this
 unfold firstIdx
 rw [hf]
theorem slice_from (S : ByteArray) (L : Nat) (h : L ≤ S.size) (ww : World) : (Instr.slice 9 (.string S) (some (.int .i64 (L : Int))) none none).run Tryz.prog ww = .ok (.string (S.extract L S.size)) ww := by
 have h0 : (0 : Int) ≤ (L : Int) := by omega
 have h1 : (L : Int) ≤ (S.size : Int) := by omega
 simp [Instr.slice, run_underlying Tryz.underlying9, Instr.sliceBounds, go_sem, h0, h1]
theorem qt24 {P : Prop} (h : P := by
  obtain ⟨rfl, rfl, rfl, rfl⟩ := hrel
  go_wp2_with fail
  go_step3
  go_wp2_with fail
  go_region_held3 (fun ww => ∃ x, Hid (ww.os = x)) ((exact ⟨_, rfl⟩)) (fail)
  all_goals
   go_wp2_with fail
   go_region_held3 (fun ww => ∃ x, Hid (ww.os = x)) ((exact ⟨_, rfl⟩)) ((go_at_call 229; refine Calls.mono (HIX.out _ _) ?_; rintro e2 w2 ⟨rfl, rfl⟩))
  all_goals go_wp2
  all_goals rw [Exit.noGoto_ret]
  all_goals simp only [Exit.inBlock, Exit.then]
  all_goals rw [Exit.noGoto_ret]
  all_goals simp only [Exit.inBlock]
  all_goals
   first
    | (refine bodyPost_ret (v := .int .i64 (-1)) (by simp [results, Tryz.results284, go_sem]) rfl ⟨rfl, ?_⟩ <;> repeat (with_reducible first | exact Below.refl _ _ | refine b_s ?_ _ | refine b_a ?_ _ | refine Below.drew ?_ | refine below_drewN ?_ _))
 ) : P := h
theorem idxRune_high (r : Nat) (w : World) (h : 128 ≤ r) (hv : r ≤ 1114111 ∧ (r < 55296 ∨ 57344 ≤ r)) (hne : r ≠ 65533) :
  qC 284 #[.string kBr, .int .i32 r] w (.int .i64 (-1)) := by
 obtain ⟨l, c, he, hl1, hl3, hc⟩ := Nib.enc_last r h hv
 have hV : Hid (∀ ww, Calls Tryz.prog 297 #[.int .i32 (r : Int)] ww fun e w' => e = .returned (.bool true) ∧ w' = ww) := fun ww => validRune r ww qo
 have hcv : ∀ ww, (convert 21 9 (.int .i32 (r : Int))).run Tryz.prog ww = .ok (.string (Utf8.encode (r : Int))) ww := fun ww => by
  simp [convert, run_underlying Tryz.underlying21, run_underlying Tryz.underlying9]
  rfl
 generalize Utf8.encode (r : Int) = rs at *
 have hsz : rs.size = l.length + 1 := by
  rw [Nib.size_list, he]; simp
 have hlast : ∀ hk : l.length < rs.size, 128 ≤ (rs[l.length]'hk).toNat := fun hk => Nib.last_list he hc l.length hk hsz.symm
 have h1 : ¬ ((r : Int) < 128) := by omega
 have h0 : (0 : Int) ≤ (r : Int) := by omega
 have h2 : ((r : Int) == 65533) = false := by simp; omega
 clear he hc h hv hne
 generalize l.length = L at *
 have hL : L < rs.size := by omega
 have hla := hlast hL
 have HIX : Hid (∀ k ww, Calls Tryz.prog 229 #[.string (kBr.extract k kBr.size), .int .u8 ((rs[L]'hL).toNat : Int)] ww fun e w' => e = .returned (.int .i64 (-1)) ∧ w' = ww) := by
  intro k ww
  have := indexByte_any (kBr.extract k kBr.size) ((rs[L]'hL).toNat : Int) ww
  rw [firstIdx_none] at this
  ·exact this
  ·intro i hi hq
   have hi2 : k + i < kBr.size := by
    have := hi
    rw [ByteArray.size_extract] at this
    have h6 : kBr.size = 6 := rfl
    omega
   have e : (kBr.extract k kBr.size)[i]'hi = kBr[k + i]'hi2 := ByteArray.getElem_extract ..
   rw [e] at hq
   have := br_lt (k + i) hi2
   rw [hq] at this
   simp at this
   omega
 have hlt : ∀ k, (hk : k < kBr.size) → (kBr[k]'hk).toNat < 128 := br_lt
 have h6 : kBr.size = 6 := rfl
 generalize kBr = S at *
 rcases (by omega : L = 1 ∨ L = 2 ∨ L = 3) with rfl | rfl | rfl
 ·have hs1 : 1 < S.size := by omega
  have hx : ¬ (S[1]'hs1).toNat = (rs[1]'hL).toNat := by have := hlt 1 hs1; omega
  have hx' : (((S[1]'hs1).toNat : Int) == ((rs[1]'hL).toNat : Int)) = false := by simp; omega
  have hi1 : (1 : Int) < (S.size : Int) := by omega
  have hi2 : (2 : Int) ≤ (S.size : Int) := by omega
  have hi3 : (1 : Int) < (rs.size : Int) := by omega
  have hi4 : (rs.size : Int) - 1 = 1 := by omega
  have hwr : IntKind.i64.wrap 2 = 2 := by rw [IntKind.wrap_i64]; omega
  have hsl : ∀ ww, (Instr.slice 9 (.string S) (some (.int .i64 2)) none none).run Tryz.prog ww = .ok (.string (S.extract 2 S.size)) ww := slice_from S 2 qo
  clear hlast hl1 hl3 hlt hsz h6
  go_enter Tryz.func284, Tryz.ntmps284
  go_wp2_with fail
  refine Calls.mono (hV.out _) ?_
  rintro e w1 ⟨rfl, rfl⟩
  go_wp2_with fail
  go_step3
  go_wp2_with fail
  go_loopg [9, 10] 1 (fun g i f wx => g = 1 ∧ i = .int .i64 1 ∧ f = .int .i64 0 ∧ wx = w1)
  case atStart => exact ⟨rfl, rfl, rfl, rfl⟩
  case round =>
   exact qt24
 ·have hs2 : 2 < S.size := by omega
  have hx : ¬ (S[2]'hs2).toNat = (rs[2]'hL).toNat := by have := hlt 2 hs2; omega
  have hx' : (((S[2]'hs2).toNat : Int) == ((rs[2]'hL).toNat : Int)) = false := by simp; omega
  have hi1 : (2 : Int) < (S.size : Int) := by omega
  have hi2 : (3 : Int) ≤ (S.size : Int) := by omega
  have hi3 : (2 : Int) < (rs.size : Int) := by omega
  have hi4 : (rs.size : Int) - 1 = 2 := by omega
  have hwr : IntKind.i64.wrap 3 = 3 := by rw [IntKind.wrap_i64]; omega
  have hsl : ∀ ww, (Instr.slice 9 (.string S) (some (.int .i64 3)) none none).run Tryz.prog ww = .ok (.string (S.extract 3 S.size)) ww := slice_from S 3 qo
  clear hlast hl1 hl3 hlt hsz h6
  go_enter Tryz.func284, Tryz.ntmps284
  go_wp2_with fail
  refine Calls.mono (hV.out _) ?_
  rintro e w1 ⟨rfl, rfl⟩
  go_wp2_with fail
  go_step3
  go_wp2_with fail
  go_loopg [9, 10] 1 (fun g i f wx => g = 1 ∧ i = .int .i64 2 ∧ f = .int .i64 0 ∧ wx = w1)
  case atStart => exact ⟨rfl, rfl, rfl, rfl⟩
  case round =>
   exact qt24
 ·have hs3 : 3 < S.size := by omega
  have hx : ¬ (S[3]'hs3).toNat = (rs[3]'hL).toNat := by have := hlt 3 hs3; omega
  have hx' : (((S[3]'hs3).toNat : Int) == ((rs[3]'hL).toNat : Int)) = false := by simp; omega
  have hi1 : (3 : Int) < (S.size : Int) := by omega
  have hi2 : (4 : Int) ≤ (S.size : Int) := by omega
  have hi3 : (3 : Int) < (rs.size : Int) := by omega
  have hi4 : (rs.size : Int) - 1 = 3 := by omega
  have hwr : IntKind.i64.wrap 4 = 4 := by rw [IntKind.wrap_i64]; omega
  have hsl : ∀ ww, (Instr.slice 9 (.string S) (some (.int .i64 4)) none none).run Tryz.prog ww = .ok (.string (S.extract 4 S.size)) ww := slice_from S 4 qo
  clear hlast hl1 hl3 hlt hsz h6
  go_enter Tryz.func284, Tryz.ntmps284
  go_wp2_with fail
  refine Calls.mono (hV.out _) ?_
  rintro e w1 ⟨rfl, rfl⟩
  go_wp2_with fail
  go_step3
  go_wp2_with fail
  go_loopg [9, 10] 1 (fun g i f wx => g = 1 ∧ i = .int .i64 3 ∧ f = .int .i64 0 ∧ wx = w1)
  case atStart => exact ⟨rfl, rfl, rfl, rfl⟩
  case round =>
   exact qt24
end Go.Proofs.YtlendfhehhacpaaGreat
