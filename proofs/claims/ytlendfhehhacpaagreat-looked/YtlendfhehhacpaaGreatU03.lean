/- A part. -/
import Derived.Test.YtlendfhehhacpaaGreatU01
import Derived.Laws.StructEq
set_option linter.unusedVariables false
set_option linter.unusedSimpArgs false
set_option maxRecDepth 100000
set_option maxHeartbeats 8000000
namespace Go.Proofs.YtlendfhehhacpaaGreat
open Go.RowKit Tryz
structure Two (w : World) (b : Nat) (x y : Int) : Prop where
 c0 : w.cell? ⟨b, 0, none⟩ = some (.int .i64 x)
 c1 : w.cell? ⟨b, 1, none⟩ = some (.int .i64 y)
 fz : ∀ o, w.frozen? ⟨b, o, none⟩ = false
 lt : b < w.heap.size
theorem Two.of_block {w w' : World} {b : Nat} {x y : Int} (h : Two w b x y) (hb : w'.heap[b]? = w.heap[b]?) (hz : w.heap.size ≤ w'.heap.size) : Two w' b x y := by
 have hc : ∀ o, w'.cell? ⟨b, o, none⟩ = w.cell? ⟨b, o, none⟩ := fun o => World.cell?_of_block (w := w) hb
 have hf : ∀ o, w'.frozen? ⟨b, o, none⟩ = w.frozen? ⟨b, o, none⟩ := fun o => World.frozen?_of_block (w := w) hb
 exact ⟨(hc _).trans h.c0, (hc _).trans h.c1, fun o => (hf o).trans (h.fz o), Nat.lt_of_lt_of_le h.lt hz⟩
theorem Two.below {w w' : World} {b : Nat} {x y : Int} (h : Two w b x y) (hb : Below w.heap.size w w') : Two w' b x y := h.of_block (hb.block b h.lt) hb.size
theorem Two.alloc {w : World} {b : Nat} {x y : Int} (h : Two w b x y) (o : Obj) : Two (w.alloc o) b x y := h.below ((Below.refl _ _).alloc (Nat.le_refl _) _)
theorem Two.drewN {w : World} {b : Nat} {x y : Int} (h : Two w b x y) (n : Nat) : Two (w.drewN n) b x y := h.below (below_drewN (Below.refl _ _) _)
theorem Two.drew {w : World} {b : Nat} {x y : Int} (h : Two w b x y) : Two w.drew b x y := h.below (Below.refl _ _).drew
theorem Two.other {w : World} {b : Nat} {x y : Int} (h : Two w b x y) {p : Addr} (hp : b ≠ p.block) (u : Value) : Two (w.setCell p u) b x y :=
 h.of_block (Below.heap_setCell _ _ _ _ hp) (by simp [World.setCell])
theorem frozen_set {w : World} {b o o' : Nat} {v : Value} : (w.setCell ⟨b, o, none⟩ v).frozen? ⟨b, o', none⟩ = w.frozen? ⟨b, o', none⟩ := World.frozen?_setCell w _ _ _
theorem Two.set0 {w : World} {b : Nat} {x y : Int} (h : Two w b x y) (z : Int) : Two (w.setCell ⟨b, 0, none⟩ (.int .i64 z)) b z y :=
 ⟨cell_set_same h.c0, (cell_set_off (by decide)).trans h.c1, fun o => (frozen_set).trans (h.fz o), by simp [World.setCell]; exact h.lt⟩
theorem Two.set1 {w : World} {b : Nat} {x y : Int} (h : Two w b x y) (z : Int) : Two (w.setCell ⟨b, 1, none⟩ (.int .i64 z)) b x z :=
 ⟨(cell_set_off (by decide)).trans h.c0, cell_set_same h.c1, fun o => (frozen_set).trans (h.fz o), by simp [World.setCell]; exact h.lt⟩
theorem Two.new (w : World) (x y : Int) (t : Nat) : Two (w.alloc (.cells #[.int .i64 x, .int .i64 y] t)) w.heap.size x y :=
 ⟨by simp, by simp, by simp, by simp⟩
theorem t_o {w : World} {b : Nat} {x y : Int} (h : Two w b x y) {p : Addr} (u : Value) (hp : b ≠ p.block := by first | omega | (simp <;> omega)) : Two (w.setCell p u) b x y := h.other hp u
theorem qN {w : World} {b : Nat} {x y : Int} {t : Nat} (h : b = w.heap.size := by simp) : Two (w.alloc (.cells #[.int .i64 x, .int .i64 y] t)) b x y := h ▸ Two.new w x y t
theorem qTw {w : World} {b : Nat} {x y : Int} (h : Two w b x y := by repeat (with_reducible first | assumption | refine t_o ?_ _ | refine Two.alloc ?_ _ | refine Two.drewN ?_ _ | refine Two.drew ?_ | refine Two.below ?_ (by with_reducible assumption))) : Two w b x y := h
theorem memLater {w w' : World} {b o : Nat} {v : Value} (h : Below w.heap.size w w') (hc : w.cell? ⟨b, o, none⟩ = some v) : w'.cell? ⟨b, o, none⟩ = some v := by
 have hb : b < w.heap.size := World.block_lt_of_cell? w ⟨b, o, none⟩ hc
 rw [h.cell (p := ⟨b, o, none⟩) hb]; exact hc
theorem memSet {w : World} {n b o o' : Nat} {v : Value} (h : n ≠ b) : (w.setCell ⟨n, o, none⟩ v).cell? ⟨b, o', none⟩ = w.cell? ⟨b, o', none⟩ :=
 World.cell?_setCell_other (w := w) (a := ⟨n, o, none⟩) (b := ⟨b, o', none⟩) (v := v) (fun e => h (by injection e))
theorem qM {P : Prop} (h : P := by repeat (first | with_reducible assumption | (with_reducible refine memLater ((Below.refl _ _).alloc (Nat.le_refl _) _) ?_) | (with_reducible refine memLater ((Below.refl _ _).drew) ?_) | (with_reducible refine memLater (by with_reducible assumption) ?_) | (with_reducible refine (memSet (by omega)).trans ?_) | (go_simp; done) | assumption)) : P := h
theorem qK {P : Prop} (h : P := by and_intros <;> first | (go_simp; done) | exact qM) : P := h
structure Five (w : World) (b : Nat) (s : ByteArray) (p n : Int) (v c : Bool) : Prop where
 c0 : w.cell? ⟨b, 0, none⟩ = some (.string s)
 c1 : w.cell? ⟨b, 1, none⟩ = some (.int .i64 p)
 c2 : w.cell? ⟨b, 2, none⟩ = some (.int .i64 n)
 c3 : w.cell? ⟨b, 3, none⟩ = some (.bool v)
 c4 : w.cell? ⟨b, 4, none⟩ = some (.bool c)
 fz : ∀ o, w.frozen? ⟨b, o, none⟩ = false
 lt : b < w.heap.size
theorem Five.of_block {w w' : World} {b : Nat} {s : ByteArray} {p n : Int} {v c : Bool} (h : Five w b s p n v c) (hb : w'.heap[b]? = w.heap[b]?) (hz : w.heap.size ≤ w'.heap.size) : Five w' b s p n v c := by
 have hc : ∀ o, w'.cell? ⟨b, o, none⟩ = w.cell? ⟨b, o, none⟩ := fun o => World.cell?_of_block (w := w) hb
 have hf : ∀ o, w'.frozen? ⟨b, o, none⟩ = w.frozen? ⟨b, o, none⟩ := fun o => World.frozen?_of_block (w := w) hb
 exact ⟨(hc _).trans h.c0, (hc _).trans h.c1, (hc _).trans h.c2, (hc _).trans h.c3, (hc _).trans h.c4, fun o => (hf o).trans (h.fz o), Nat.lt_of_lt_of_le h.lt hz⟩
theorem Five.below {w w' : World} {b : Nat} {s : ByteArray} {p n : Int} {v c : Bool} (h : Five w b s p n v c) (hb : Below w.heap.size w w') : Five w' b s p n v c := h.of_block (hb.block b h.lt) hb.size
theorem Five.alloc {w : World} {b : Nat} {s : ByteArray} {p n : Int} {v c : Bool} (h : Five w b s p n v c) (o : Obj) : Five (w.alloc o) b s p n v c := h.below ((Below.refl _ _).alloc (Nat.le_refl _) _)
theorem Five.drewN {w : World} {b : Nat} {s : ByteArray} {p n : Int} {v c : Bool} (h : Five w b s p n v c) (k : Nat) : Five (w.drewN k) b s p n v c := h.below (below_drewN (Below.refl _ _) _)
theorem Five.drew {w : World} {b : Nat} {s : ByteArray} {p n : Int} {v c : Bool} (h : Five w b s p n v c) : Five w.drew b s p n v c := h.below (Below.refl _ _).drew
theorem Five.other {w : World} {b : Nat} {s : ByteArray} {p n : Int} {v c : Bool} (h : Five w b s p n v c) {q : Addr} (hp : b ≠ q.block) (u : Value) : Five (w.setCell q u) b s p n v c :=
 h.of_block (Below.heap_setCell _ _ _ _ hp) (by simp [World.setCell])
theorem Five.new (w : World) (s : ByteArray) (p n : Int) (v c : Bool) (t : Nat) : Five (w.alloc (.cells #[.string s, .int .i64 p, .int .i64 n, .bool v, .bool c] t)) w.heap.size s p n v c :=
 ⟨by simp, by simp, by simp, by simp, by simp, by simp, by simp⟩
theorem f_o {w : World} {b : Nat} {s : ByteArray} {p n : Int} {v c : Bool} (h : Five w b s p n v c) {q : Addr} (u : Value) (hp : b ≠ q.block := by first | omega | (simp <;> omega)) : Five (w.setCell q u) b s p n v c := h.other hp u
theorem qF {w : World} {b : Nat} {s : ByteArray} {p n : Int} {v c : Bool} (h : Five w b s p n v c := by repeat (with_reducible first | assumption | refine f_o ?_ _ | refine Five.alloc ?_ _ | refine Five.drewN ?_ _ | refine Five.drew ?_ | refine Five.below ?_ (by with_reducible assumption))) : Five w b s p n v c := h
theorem eqIn_int (d : Nat) (a b : Int) (w : World) : (Op.equalIn (d + 1) 3 (.int .i64 a) (.int .i64 b)).run Tryz.prog w = .ok (a == b) w := by
 simp [Op.equalIn, run_underlying underlying3]
theorem eq_two_in (k : Nat) (a b c d : Int) (w : World) : (Op.equalIn (k + 2) 128 (.agg #[.int .i64 (a), .int .i64 (b)]) (.agg #[.int .i64 (c), .int .i64 (d)])).run Tryz.prog w = .ok ((a == c) && (b == d)) w := by
 have h := fun x y w => eqIn_int k x y w
 rw [show k + 2 = (k + 1) + 1 by omega]
 rw [Op.equalIn]
 simp only [Sem.run_bind, run_underlying underlying128, Result.andThen_ok]
 simp [go_sem, part, h, Std.Legacy.Range.forIn_eq_forIn_range', List.range']
 by_cases h1 : a = c <;> by_cases h2 : b = d <;> simp [h1, h2]
theorem eq_two (a b c d : Int) (w : World) : (Op.equal 128 (.agg #[.int .i64 (a), .int .i64 (b)]) (.agg #[.int .i64 (c), .int .i64 (d)])).run Tryz.prog w = .ok ((a == c) && (b == d)) w := eq_two_in 9998 a b c d w
theorem neq_two (a b c d : Int) (w : World) : (binOp .neq 128 (.agg #[.int .i64 (a), .int .i64 (b)]) (.agg #[.int .i64 (c), .int .i64 (d)])).run Tryz.prog w = .ok (.bool (!((a == c) && (b == d)))) w := by
 have e : binOp .neq 128 (.agg #[.int .i64 (a), .int .i64 (b)]) (.agg #[.int .i64 (c), .int .i64 (d)]) = (do pure (.bool (!(← Op.equal 128 (.agg #[.int .i64 (a), .int .i64 (b)]) (.agg #[.int .i64 (c), .int .i64 (d)]))))) := rfl
 rw [e, Sem.run_bind, eq_two]
 rfl
theorem eql_two (a b c d : Int) (w : World) : (binOp .eql 128 (.agg #[.int .i64 (a), .int .i64 (b)]) (.agg #[.int .i64 (c), .int .i64 (d)])).run Tryz.prog w = .ok (.bool ((a == c) && (b == d))) w := by
 have e : binOp .eql 128 (.agg #[.int .i64 (a), .int .i64 (b)]) (.agg #[.int .i64 (c), .int .i64 (d)]) = (do pure (.bool (← Op.equal 128 (.agg #[.int .i64 (a), .int .i64 (b)]) (.agg #[.int .i64 (c), .int .i64 (d)])))) := rfl
 rw [e, Sem.run_bind, eq_two]
 rfl
