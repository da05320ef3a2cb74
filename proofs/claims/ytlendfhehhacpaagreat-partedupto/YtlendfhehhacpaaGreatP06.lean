/- A part. -/
import Derived.Test.YtlendfhehhacpaaGreatP04
set_option linter.unusedVariables false
set_option linter.unusedSimpArgs false
set_option maxRecDepth 100000
set_option maxHeartbeats 8000000
namespace Go.Proofs.YtlendfhehhacpaaGreat
open Go.RowKit
theorem mOn_normal (b r d : Nat) (tv : Value) (dg : ByteArray) (p : Pg) (w : World) (hb : BdAt w b r d tv dg) (h : RdAt w r d p) (hm : p.mode = 0) :
  qC 64 #[.pointer (some ⟨b, 0, none⟩)] w (.iface 77 (.agg #[.pointer (some ⟨r, 0, none⟩)])) := by
 obtain ⟨b0, b1, b2, b3, b4, b5, bz, bl⟩ := hb
 have c0 := h.bg.c0
 have c3 := h.dk.c3
 rw [hm] at c3
 clear h
 go_enter Tryz.func64, Tryz.ntmps64
 go_wp2
 exact qV (.iface 77 (.agg #[.pointer (some ⟨r, 0, none⟩)])) (by simp [results, Tryz.results64, go_sem]) rfl
theorem mOn_marking (b r d : Nat) (tv : Value) (dg : ByteArray) (p : Pg) (w : World) (hb : BdAt w b r d tv dg) (h : RdAt w r d p) (hm : p.mode = 2 ∨ p.mode = 3) :
  qC 64 #[.pointer (some ⟨b, 0, none⟩)] w (.iface 81 (.agg #[.pointer (some ⟨r, 0, none⟩)])) := by
 obtain ⟨b0, b1, b2, b3, b4, b5, bz, bl⟩ := hb
 have c0 := h.bg.c0
 have c3 := h.dk.c3
 have h1 : (p.mode == 0) = false := by rcases hm with h | h <;> rw [h] <;> decide
 have h2 : (p.mode == 1) = false := by rcases hm with h | h <;> rw [h] <;> decide
 clear h hm
 go_enter Tryz.func64, Tryz.ntmps64
 go_wp2
 exact qV (.iface 81 (.agg #[.pointer (some ⟨r, 0, none⟩)])) (by simp [results, Tryz.results64, go_sem]) rfl
theorem meth_normal_take (a : Addr) (w : World) : (method 418 77 (.agg #[.pointer (some a)]) "nib/modes.take").run Tryz.prog w = .ok (137, .agg #[.pointer (some a)]) w := by kernel_rfl
theorem meth_marking_take (a : Addr) (w : World) : (method 418 81 (.agg #[.pointer (some a)]) "nib/modes.take").run Tryz.prog w = .ok (309, .agg #[.pointer (some a)]) w := by kernel_rfl
theorem meth_normal_escape (a : Addr) (w : World) : (method 418 77 (.agg #[.pointer (some a)]) "nib/modes.escape").run Tryz.prog w = .ok (135, .pointer (some a)) w := by kernel_rfl
theorem meth_marking_escape (a : Addr) (w : World) : (method 418 81 (.agg #[.pointer (some a)]) "nib/modes.escape").run Tryz.prog w = .ok (135, .pointer (some a)) w := by kernel_rfl
theorem meth_insert_take (a : Addr) (w : World) : (method 418 80 (.agg #[.pointer (some a)]) "nib/modes.take").run Tryz.prog w = .ok (305, .agg #[.pointer (some a)]) w := by kernel_rfl
theorem meth_insert_escape (a : Addr) (w : World) : (method 418 80 (.agg #[.pointer (some a)]) "nib/modes.escape").run Tryz.prog w = .ok (304, .agg #[.pointer (some a)]) w := by kernel_rfl
theorem Upd.cell {S : List Nat} {w w' : World} (h : Upd S w w') {b o : Nat} (hn : b ∉ S) (hl : b < w.heap.size) : w'.cell? ⟨b, o, none⟩ = w.cell? ⟨b, o, none⟩ := World.cell?_of_block (w := w) (h.block b hl hn)
theorem Upd.frozen {S : List Nat} {w w' : World} (h : Upd S w w') {b o : Nat} (hn : b ∉ S) (hl : b < w.heap.size) : w'.frozen? ⟨b, o, none⟩ = w.frozen? ⟨b, o, none⟩ := World.frozen?_of_block (w := w) (h.block b hl hn)
theorem Upd.was {S : List Nat} {w w' : World} (h : Upd S w w') {b o : Nat} {v : Value} (hc : w.cell? ⟨b, o, none⟩ = some v) (hn : b ∉ S) : w'.cell? ⟨b, o, none⟩ = some v :=
 (h.cell hn (World.block_lt_of_cell? w ⟨b, o, none⟩ hc)).trans hc
theorem Upd.lt {S : List Nat} {w w' : World} (h : Upd S w w') {b : Nat} (hl : b < w.heap.size) : b < w'.heap.size := Nat.lt_of_lt_of_le hl h.size
theorem vBack_piece (s : ByteArray) (a b p : Int) (w : World) :
  qC 221 #[.string s, .agg #[.int .i64 a, .int .i64 b, .bool false], .int .i64 p] w (.int .i64 a) := by
 go_enter Tryz.func221, Tryz.ntmps221
 go_wp2
 refine bodyPost_ret (v := .int .i64 a) (by simp [results, Tryz.results221, go_sem]) rfl ⟨rfl, ?_⟩
 repeat (with_reducible first | exact Below.refl _ _ | refine b_s ?_ _ | refine b_a ?_ _ | refine Below.drew ?_ | refine below_drewN ?_ _)
theorem qt88 {P : Prop} (h : P := by
  refine bodyPost_ret (v := .bool true) (by simp [results, Tryz.results176, go_sem]) rfl ⟨by rename_i h; simp [h], ?_⟩
  repeat (with_reducible first | exact Below.refl _ _ | refine b_s ?_ _ | refine b_a ?_ _ | refine Below.drew ?_ | refine below_drewN ?_ _)
 ) : P := h
theorem vWrites_any (c : Int) (w : World) :
  qC 176 #[.int .u8 c] w (.bool (c == 100 || c == 99 || c == 121)) := by
 go_enter Tryz.func176, Tryz.ntmps176
 go_wp2
 ·exact qt88
 ·exact qt88
 ·refine bodyPost_ret (v := .bool (c == 100 || c == 99 || c == 121)) (by simp [results, Tryz.results176, go_sem]) rfl ⟨rfl, ?_⟩
  repeat (with_reducible first | exact Below.refl _ _ | refine b_s ?_ _ | refine b_a ?_ _ | refine Below.drew ?_ | refine below_drewN ?_ _)
theorem vBack_lines (s : ByteArray) (a p : Nat) (b : Int) (w : World) (hs : s.size ≤ 1000) (ha : a ≤ s.size) (hp : p ≤ s.size) :
  qC 221 #[.string s, .agg #[.int .i64 a, .int .i64 b, .bool true], .int .i64 p] w (.int .i64 (if Nib.beg s a = Nib.beg s p ∧ Nib.fin s a = Nib.fin s p then (p : Int) else min (Nib.beg s a + (p - Nib.beg s p)) (max (Nib.beg s a) (Nib.fin s a - 1)))) := by
 have G1 : qH 195 #[.string s, .int .i64 a] (.agg #[.int .i64 (Nib.beg s a), .int .i64 (Nib.fin s a)]) := fun ww => tLine_any s a a ww hs rfl ha
 have G2 : qH 195 #[.string s, .int .i64 p] (.agg #[.int .i64 (Nib.beg s p), .int .i64 (Nib.fin s p)]) := fun ww => tLine_any s p p ww hs rfl hp
 have e1 := Nib.beg_le s p
 have e2 := Nib.beg_le s a
 have e3 := Nib.fin_le ha
 generalize Nib.beg s a = A at *
 generalize Nib.fin s a = B at *
 generalize Nib.beg s p = C at *
 generalize Nib.fin s p = D at *
 by_cases hx : A = C ∧ B = D
 ·rw [if_pos hx]
  have HQ : ∀ ww, (binOp .eql 128 (.agg #[.int .i64 (A), .int .i64 (B)]) (.agg #[.int .i64 (C), .int .i64 (D)])).run Tryz.prog ww = .ok (.bool true) ww := by intro ww; rw [eql_two]; simp [hx]
  clear hx
  go_enter Tryz.func221, Tryz.ntmps221
  go_wp2_with fail
  refine (G1.out _).mono ?_
  rintro e w1 ⟨rfl, h1⟩
  obtain ⟨hc1, hf1, hz1⟩ := qb h1
  try simp at hz1
  go_wp2_with fail
  refine (G2.out _).mono ?_
  rintro e w2 ⟨rfl, h2⟩
  obtain ⟨hc2, hf2, hz2⟩ := qb h2
  try simp at hz2
  clear hc1 hf1 hc2 hf2
  go_wp2
  refine bodyPost_ret (v := .int .i64 p) (by simp [results, Tryz.results221, go_sem]) rfl ⟨rfl, ?_⟩
  repeat (with_reducible first | exact Below.refl _ _ | refine b_s ?_ _ | refine b_a ?_ _ | refine Below.drew ?_ | refine below_drewN ?_ _ | refine b_t ?_ h2 | refine b_t ?_ h1)
 ·rw [if_neg hx]
  have HQ : ∀ ww, (binOp .eql 128 (.agg #[.int .i64 (A), .int .i64 (B)]) (.agg #[.int .i64 (C), .int .i64 (D)])).run Tryz.prog ww = .ok (.bool false) ww := by
   intro ww; rw [eql_two]; congr 2; simp only [Bool.and_eq_false_imp, beq_iff_eq, beq_eq_false_iff_ne]; omega
  have G3 : qH 245 #[.agg #[.int .i64 (A), .int .i64 (B)], .int .i64 ((p : Int) - C)] (.int .i64 (min (A + (p - C)) (max (A : Int) (B - 1)))) := fun ww => tColumn_any A B (p - C) ww qo qo
  generalize min ((A : Int) + (p - C)) (max (A : Int) (B - 1)) = X at *
  clear hx
  go_enter Tryz.func221, Tryz.ntmps221
  go_wp2_with fail
  refine (G1.out _).mono ?_
  rintro e w1 ⟨rfl, h1⟩
  obtain ⟨hc1, hf1, hz1⟩ := qb h1
  try simp at hz1
  go_wp2_with fail
  refine (G2.out _).mono ?_
  rintro e w2 ⟨rfl, h2⟩
  obtain ⟨hc2, hf2, hz2⟩ := qb h2
  try simp at hz2
  clear hc1 hf1 hc2 hf2
  go_wp2_with fail
  refine (G3.out _).mono ?_
  rintro e w3 ⟨rfl, h3⟩
  obtain ⟨hc3, hf3, hz3⟩ := qb h3
  try simp at hz3
  go_wp2
  refine bodyPost_ret (v := .int .i64 X) (by simp [results, Tryz.results221, go_sem]) rfl ⟨rfl, ?_⟩
  repeat (with_reducible first | exact Below.refl _ _ | refine b_s ?_ _ | refine b_a ?_ _ | refine Below.drew ?_ | refine below_drewN ?_ _ | refine b_t ?_ h3 | refine b_t ?_ h2 | refine b_t ?_ h1)
theorem vDo_copy (s : ByteArray) (a b p r : Int) (l : Bool) (w : World)
  (HB : qH 221 #[.string s, .agg #[.int .i64 a, .int .i64 b, .bool l], .int .i64 p] (.int .i64 r)) :
  qC 174 #[.int .u8 121, .string s, .agg #[.int .i64 a, .int .i64 b, .bool l], .int .i64 p] w (.tuple #[.string s, .int .i64 r]) := by
 go_enter Tryz.func174, Tryz.ntmps174
 go_wp2_with fail
 refine (HB.out _).mono ?_
 rintro e w1 ⟨rfl, h1⟩
 obtain ⟨hc1, hf1, hz1⟩ := qb h1
 try simp at hz1
 go_wp2
 refine bodyPost_ret (v := .tuple #[.string s, .int .i64 r]) (by simp [results, Tryz.results174, go_sem]) rfl ⟨rfl, ?_⟩
 repeat (with_reducible first | exact Below.refl _ _ | refine b_s ?_ _ | refine b_a ?_ _ | refine Below.drew ?_ | refine below_drewN ?_ _ | refine b_t ?_ h1)
theorem vWithout_piece (s : ByteArray) (i j : Nat) (w : World) (hs : s.size ≤ 1000) (h : i ≤ j) (hj : j ≤ s.size) :
  qC 218 #[.string s, .agg #[.int .i64 i, .int .i64 j, .bool false]] w (.tuple #[.string (s.extract 0 i ++ s.extract j s.size), .int .i64 i]) := by
 have HW : qH 192 #[.string s, .agg #[.int .i64 (i), .int .i64 (j)], .string ⟨#[]⟩] (.string (s.extract 0 i ++ s.extract j s.size)) := by
  intro ww
  have := tWith_any s ⟨#[]⟩ i j i j ww hs qd rfl rfl h hj
  rw [show s.extract 0 i ++ (⟨#[]⟩ : ByteArray) = s.extract 0 i from ByteArray.append_empty] at this
  exact this
 generalize s.extract 0 i ++ s.extract j s.size = X at *
 go_enter Tryz.func218, Tryz.ntmps218
 go_wp2_with fail
 go_wp2_with fail
 go_region_held3 (fun ww => ww.cell? ⟨w.heap.size, 0, none⟩ = some (.int .i64 i) ∧ ww.cell? ⟨w.heap.size, 1, none⟩ = some (.int .i64 j)) ((refine ⟨?_, ?_⟩ <;> go_simp)) ((go_at_call 192; refine (HW.out _).mono ?_; rintro r1 w1 ⟨rfl, h1⟩; obtain ⟨hc1, hf1, hz1⟩ := qb h1; (try simp at hz1); (try have ⟨hl1_0, hk1_0⟩ := qL w.heap.size w1.heap.size)))
 go_wp2
 refine bodyPost_ret (v := .tuple #[.string X, .int .i64 i]) (by simp [results, Tryz.results218, go_sem]) rfl ⟨rfl, ?_⟩
 repeat (with_reducible first | exact Below.refl _ _ | refine b_s ?_ _ | refine b_a ?_ _ | refine Below.drew ?_ | refine below_drewN ?_ _ | refine b_t ?_ h1)
theorem mTaken_piece (s : ByteArray) (i j : Nat) (l : Bool) (w : World) (hs : s.size ≤ 1000) (h : i ≤ j) (hj : j ≤ s.size) :
  qC 173 #[.string s, .agg #[.int .i64 i, .int .i64 j, .bool l]] w (.agg #[.string (s.extract i j ++ if l then ⟨#[10]⟩ else ⟨#[]⟩), .bool l]) := by
 have HO : qH 87 #[.string s, .agg #[.int .i64 (i), .int .i64 (j)]] (.string (s.extract i j)) := fun ww => tOf_any s i j i j ww hs rfl rfl h hj
 have hz : (s.extract i j).size ≤ 1000 := by rw [ByteArray.size_extract]; omega
 generalize s.extract i j = X at *
 cases l
 ·rw [if_neg qi, show X ++ (⟨#[]⟩ : ByteArray) = X from ByteArray.append_empty]
  go_enter Tryz.func173, Tryz.ntmps173
  go_wp2_with fail
  refine (HO.out _).mono ?_
  rintro e w1 ⟨rfl, h1⟩
  obtain ⟨hc1, hf1, hz1⟩ := qb h1
  try simp at hz1
  have l1 : w.heap.size + 1 < w1.heap.size := by omega
  have z0 : ∀ o, w1.frozen? ⟨w.heap.size + 1, o, none⟩ = false := by intro o; rw [hf1 _ _ qi]; first | (go_simp; done) | simp
  have c1 : w1.cell? ⟨w.heap.size + 1, 0, none⟩ = some (.string ⟨#[]⟩) := by rw [hc1 _ _ qi]; first | (go_simp; done) | simp
  have c2 : w1.cell? ⟨w.heap.size + 1, 1, none⟩ = some (.bool false) := by rw [hc1 _ _ qi]; first | (go_simp; done) | simp
  have c3 : w1.cell? ⟨w.heap.size, 2, none⟩ = some (.bool false) := by rw [hc1 _ _ qs]; first | (go_simp; done) | simp
  clear hc1 hf1
  go_wp2
  refine bodyPost_ret (v := .agg #[.string X, .bool false]) (by simp [results, Tryz.results173, go_sem, c1, c2, z0, l1]) rfl ⟨rfl, ?_⟩
  repeat (with_reducible first | exact Below.refl _ _ | refine b_s ?_ _ | refine b_a ?_ _ | refine Below.drew ?_ | refine below_drewN ?_ _ | refine b_t ?_ h1)
 ·rw [if_pos rfl]
  have f1 : ¬ 9223372036854775807 < X.size + 1 := by omega
  go_enter Tryz.func173, Tryz.ntmps173
  go_wp2_with fail
  refine (HO.out _).mono ?_
  rintro e w1 ⟨rfl, h1⟩
  obtain ⟨hc1, hf1, hz1⟩ := qb h1
  try simp at hz1
  have l1 : w.heap.size + 1 < w1.heap.size := by omega
  have z0 : ∀ o, w1.frozen? ⟨w.heap.size + 1, o, none⟩ = false := by intro o; rw [hf1 _ _ qi]; first | (go_simp; done) | simp
  have c1 : w1.cell? ⟨w.heap.size + 1, 0, none⟩ = some (.string ⟨#[]⟩) := by rw [hc1 _ _ qi]; first | (go_simp; done) | simp
  have c2 : w1.cell? ⟨w.heap.size + 1, 1, none⟩ = some (.bool false) := by rw [hc1 _ _ qi]; first | (go_simp; done) | simp
  have c3 : w1.cell? ⟨w.heap.size, 2, none⟩ = some (.bool true) := by rw [hc1 _ _ qs]; first | (go_simp; done) | simp
  clear hc1 hf1
  go_wp2
  refine bodyPost_ret (v := .agg #[.string (X ++ ⟨#[10]⟩), .bool true]) (by simp [results, Tryz.results173, go_sem, c1, c2, z0, l1]) rfl ⟨rfl, ?_⟩
  repeat (with_reducible first | exact Below.refl _ _ | refine b_s ?_ _ | refine b_a ?_ _ | refine Below.drew ?_ | refine below_drewN ?_ _ | refine b_t ?_ h1)
end Go.Proofs.YtlendfhehhacpaaGreat
