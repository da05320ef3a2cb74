/- A part. -/
import Derived.Test.YtlendfhehhacpaaGreatU09
import Derived.Test.YtlendfhehhacpaaGreatU10
set_option linter.unusedVariables false
set_option linter.unusedSimpArgs false
set_option maxRecDepth 100000
set_option maxHeartbeats 8000000
namespace Go.Proofs.YtlendfhehhacpaaGreat
open Go.RowKit Tryz
theorem mOn_normal (b r d : Nat) (tv : Value) (dg : ByteArray) (p : Pg) (w : World) (hb : BdAt w b r d tv dg) (h : RdAt w r d p) (hm : p.mode = 0) :
  qC 64 #[.pointer (some ⟨b, 0, none⟩)] w (.iface 77 (.agg #[.pointer (some ⟨r, 0, none⟩)])) := by
 obtain ⟨b0, b1, b2, b3, b4, b5, bz, bl⟩ := hb
 have c0 := h.bg.c0
 have c3 := h.dk.c3
 rw [hm] at c3
 clear h
 go_enter func64, ntmps64
 go_wp2
 exact qV (.iface 77 (.agg #[.pointer (some ⟨r, 0, none⟩)])) (by simp [results, results64, go_sem]) rfl
theorem mOn_marking (b r d : Nat) (tv : Value) (dg : ByteArray) (p : Pg) (w : World) (hb : BdAt w b r d tv dg) (h : RdAt w r d p) (hm : p.mode = 2 ∨ p.mode = 3) :
  qC 64 #[.pointer (some ⟨b, 0, none⟩)] w (.iface 81 (.agg #[.pointer (some ⟨r, 0, none⟩)])) := by
 obtain ⟨b0, b1, b2, b3, b4, b5, bz, bl⟩ := hb
 have c0 := h.bg.c0
 have c3 := h.dk.c3
 have h1 : (p.mode == 0) = false := by rcases hm with h | h <;> rw [h] <;> decide
 have h2 : (p.mode == 1) = false := by rcases hm with h | h <;> rw [h] <;> decide
 clear h hm
 go_enter func64, ntmps64
 go_wp2
 exact qV (.iface 81 (.agg #[.pointer (some ⟨r, 0, none⟩)])) (by simp [results, results64, go_sem]) rfl
theorem meth_normal_take (a : Addr) (w : World) : (method 418 77 (.agg #[.pointer (some a)]) "nib/modes.take").run Tryz.prog w = .ok (137, .agg #[.pointer (some a)]) w := by kernel_rfl
theorem meth_marking_take (a : Addr) (w : World) : (method 418 81 (.agg #[.pointer (some a)]) "nib/modes.take").run Tryz.prog w = .ok (309, .agg #[.pointer (some a)]) w := by kernel_rfl
theorem meth_normal_escape (a : Addr) (w : World) : (method 418 77 (.agg #[.pointer (some a)]) "nib/modes.escape").run Tryz.prog w = .ok (135, .pointer (some a)) w := by kernel_rfl
theorem meth_marking_escape (a : Addr) (w : World) : (method 418 81 (.agg #[.pointer (some a)]) "nib/modes.escape").run Tryz.prog w = .ok (135, .pointer (some a)) w := by kernel_rfl
theorem Upd.cell {S : List Nat} {w w' : World} (h : Upd S w w') {b o : Nat} (hn : b ∉ S) (hl : b < w.heap.size) : w'.cell? ⟨b, o, none⟩ = w.cell? ⟨b, o, none⟩ := World.cell?_of_block (w := w) (h.block b hl hn)
theorem Upd.frozen {S : List Nat} {w w' : World} (h : Upd S w w') {b o : Nat} (hn : b ∉ S) (hl : b < w.heap.size) : w'.frozen? ⟨b, o, none⟩ = w.frozen? ⟨b, o, none⟩ := World.frozen?_of_block (w := w) (h.block b hl hn)
theorem Upd.was {S : List Nat} {w w' : World} (h : Upd S w w') {b o : Nat} {v : Value} (hc : w.cell? ⟨b, o, none⟩ = some v) (hn : b ∉ S) : w'.cell? ⟨b, o, none⟩ = some v :=
 (h.cell hn (World.block_lt_of_cell? w ⟨b, o, none⟩ hc)).trans hc
theorem Upd.lt {S : List Nat} {w w' : World} (h : Upd S w w') {b : Nat} (hl : b < w.heap.size) : b < w'.heap.size := Nat.lt_of_lt_of_le hl h.size
