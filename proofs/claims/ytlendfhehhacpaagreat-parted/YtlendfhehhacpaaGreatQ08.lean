/- A part. -/
import Derived.Test.YtlendfhehhacpaaGreatQ03
import Derived.Laws.AppendOwn
set_option linter.unusedVariables false
set_option linter.unusedSimpArgs false
set_option maxRecDepth 100000
set_option maxHeartbeats 8000000
namespace Go.Proofs.YtlendfhehhacpaaGreat
open Go.RowKit Tryz
structure BdAt (w : World) (b r d : Nat) (tv : Value) (dg : ByteArray) : Prop where
 c0 : w.cell? ⟨b, 0, none⟩ = some (.pointer (some ⟨r, 0, none⟩))
 c1 : w.cell? ⟨b, 1, none⟩ = some tv
 c2 : w.cell? ⟨b, 2, none⟩ = some (.string dg)
 c3 : w.cell? ⟨b, 3, none⟩ = some (.pointer (some ⟨r, 0, none⟩))
 c4 : w.cell? ⟨b, 4, none⟩ = some (.pointer (some ⟨d, 0, none⟩))
 c5 : w.cell? ⟨b, 5, none⟩ = some (.pointer (some ⟨r, 0, none⟩))
 fz : ∀ o, w.frozen? ⟨b, o, none⟩ = false
 lt : b < w.heap.size
theorem BdAt.of_block {w w' : World} {b r d : Nat} {tv : Value} {dg : ByteArray} (h : BdAt w b r d tv dg) (hb : w'.heap[b]? = w.heap[b]?) (hz : w.heap.size ≤ w'.heap.size) : BdAt w' b r d tv dg := by
 have hc : ∀ o, w'.cell? ⟨b, o, none⟩ = w.cell? ⟨b, o, none⟩ := fun o => World.cell?_of_block (w := w) hb
 have hf : ∀ o, w'.frozen? ⟨b, o, none⟩ = w.frozen? ⟨b, o, none⟩ := fun o => World.frozen?_of_block (w := w) hb
 exact ⟨(hc _).trans h.c0, (hc _).trans h.c1, (hc _).trans h.c2, (hc _).trans h.c3, (hc _).trans h.c4, (hc _).trans h.c5, fun o => (hf o).trans (h.fz o), Nat.lt_of_lt_of_le h.lt hz⟩
theorem BdAt.below {w w' : World} {b r d : Nat} {tv : Value} {dg : ByteArray} (h : BdAt w b r d tv dg) (hb : Below w.heap.size w w') : BdAt w' b r d tv dg := h.of_block (hb.block b h.lt) hb.size
theorem BdAt.alloc {w : World} {b r d : Nat} {tv : Value} {dg : ByteArray} (h : BdAt w b r d tv dg) (o : Obj) : BdAt (w.alloc o) b r d tv dg := h.below ((Below.refl _ _).alloc (Nat.le_refl _) _)
theorem BdAt.drewN {w : World} {b r d : Nat} {tv : Value} {dg : ByteArray} (h : BdAt w b r d tv dg) (n : Nat) : BdAt (w.drewN n) b r d tv dg := h.below (below_drewN (Below.refl _ _) _)
theorem BdAt.drew {w : World} {b r d : Nat} {tv : Value} {dg : ByteArray} (h : BdAt w b r d tv dg) : BdAt w.drew b r d tv dg := h.below (Below.refl _ _).drew
theorem BdAt.upd {S : List Nat} {w w' : World} {b r d : Nat} {tv : Value} {dg : ByteArray} (h : BdAt w b r d tv dg) (hu : Upd S w w') (hn : b ∉ S) : BdAt w' b r d tv dg := h.of_block (hu.block b h.lt hn) hu.size
theorem BdAt.other {w : World} {b r d : Nat} {tv : Value} {dg : ByteArray} (h : BdAt w b r d tv dg) {q : Addr} (hp : b ≠ q.block) (u : Value) : BdAt (w.setCell q u) b r d tv dg := h.of_block (Below.heap_setCell _ _ _ _ hp) (by simp [World.setCell])
theorem BdAt.set_tv {w : World} {b r d : Nat} {tv : Value} {dg : ByteArray} (h : BdAt w b r d tv dg) (x : Value) : BdAt (w.setCell ⟨b, 1, none⟩ (x)) b r d x dg :=
 ⟨(cell_set_off qd).trans h.c0, cell_set_same h.c1, (cell_set_off qd).trans h.c2, (cell_set_off qd).trans h.c3, (cell_set_off qd).trans h.c4, (cell_set_off qd).trans h.c5, fun o => frozen_set.trans (h.fz o), by simp [World.setCell]; exact h.lt⟩
theorem BdAt.set_dg {w : World} {b r d : Nat} {tv : Value} {dg : ByteArray} (h : BdAt w b r d tv dg) (x : ByteArray) : BdAt (w.setCell ⟨b, 2, none⟩ (.string x)) b r d tv x :=
 ⟨(cell_set_off qd).trans h.c0, (cell_set_off qd).trans h.c1, cell_set_same h.c2, (cell_set_off qd).trans h.c3, (cell_set_off qd).trans h.c4, (cell_set_off qd).trans h.c5, fun o => frozen_set.trans (h.fz o), by simp [World.setCell]; exact h.lt⟩
theorem mOn_normal (b r d : Nat) (tv : Value) (dg : ByteArray) (p : Pg) (w : World) (hb : BdAt w b r d tv dg) (h : RdAt w r d p) (hm : p.mode = 0) :
  qC 64 #[.pointer (some ⟨b, 0, none⟩)] w (.iface 77 (.agg #[.pointer (some ⟨r, 0, none⟩)])) := by
 obtain ⟨b0, b1, b2, b3, b4, b5, bz, bl⟩ := hb
 have c0 := h.bg.c0
 have c3 := h.dk.c3
 rw [hm] at c3
 clear h
 go_enter func64, ntmps64
 go_wp2
 exact qV (.iface 77 (.agg #[.pointer (some ⟨r, 0, none⟩)])) (by simp [results, results64, go_sem]) rfl
theorem mOn_marking (b r d : Nat) (tv : Value) (dg : ByteArray) (p : Pg) (w : World) (hb : BdAt w b r d tv dg) (h : RdAt w r d p) (hm : p.mode = 2 ∨ p.mode = 3) :
  qC 64 #[.pointer (some ⟨b, 0, none⟩)] w (.iface 81 (.agg #[.pointer (some ⟨r, 0, none⟩)])) := by
 obtain ⟨b0, b1, b2, b3, b4, b5, bz, bl⟩ := hb
 have c0 := h.bg.c0
 have c3 := h.dk.c3
 have h1 : (p.mode == 0) = false := by rcases hm with h | h <;> rw [h] <;> decide
 have h2 : (p.mode == 1) = false := by rcases hm with h | h <;> rw [h] <;> decide
 clear h hm
 go_enter func64, ntmps64
 go_wp2
 exact qV (.iface 81 (.agg #[.pointer (some ⟨r, 0, none⟩)])) (by simp [results, results64, go_sem]) rfl
theorem meth_normal_take (a : Addr) (w : World) : (method 418 77 (.agg #[.pointer (some a)]) "nib/modes.take").run Tryz.prog w = .ok (137, .agg #[.pointer (some a)]) w := by kernel_rfl
theorem meth_marking_take (a : Addr) (w : World) : (method 418 81 (.agg #[.pointer (some a)]) "nib/modes.take").run Tryz.prog w = .ok (309, .agg #[.pointer (some a)]) w := by kernel_rfl
theorem meth_normal_escape (a : Addr) (w : World) : (method 418 77 (.agg #[.pointer (some a)]) "nib/modes.escape").run Tryz.prog w = .ok (135, .pointer (some a)) w := by kernel_rfl
theorem meth_marking_escape (a : Addr) (w : World) : (method 418 81 (.agg #[.pointer (some a)]) "nib/modes.escape").run Tryz.prog w = .ok (135, .pointer (some a)) w := by kernel_rfl
theorem meth_insert_take (a : Addr) (w : World) : (method 418 80 (.agg #[.pointer (some a)]) "nib/modes.take").run Tryz.prog w = .ok (305, .agg #[.pointer (some a)]) w := by kernel_rfl
theorem meth_insert_escape (a : Addr) (w : World) : (method 418 80 (.agg #[.pointer (some a)]) "nib/modes.escape").run Tryz.prog w = .ok (304, .agg #[.pointer (some a)]) w := by kernel_rfl
theorem Upd.cell {S : List Nat} {w w' : World} (h : Upd S w w') {b o : Nat} (hn : b ∉ S) (hl : b < w.heap.size) : w'.cell? ⟨b, o, none⟩ = w.cell? ⟨b, o, none⟩ := World.cell?_of_block (w := w) (h.block b hl hn)
theorem Upd.frozen {S : List Nat} {w w' : World} (h : Upd S w w') {b o : Nat} (hn : b ∉ S) (hl : b < w.heap.size) : w'.frozen? ⟨b, o, none⟩ = w.frozen? ⟨b, o, none⟩ := World.frozen?_of_block (w := w) (h.block b hl hn)
theorem Upd.was {S : List Nat} {w w' : World} (h : Upd S w w') {b o : Nat} {v : Value} (hc : w.cell? ⟨b, o, none⟩ = some v) (hn : b ∉ S) : w'.cell? ⟨b, o, none⟩ = some v :=
 (h.cell hn (World.block_lt_of_cell? w ⟨b, o, none⟩ hc)).trans hc
theorem Upd.lt {S : List Nat} {w w' : World} (h : Upd S w w') {b : Nat} (hl : b < w.heap.size) : b < w'.heap.size := Nat.lt_of_lt_of_le hl h.size
