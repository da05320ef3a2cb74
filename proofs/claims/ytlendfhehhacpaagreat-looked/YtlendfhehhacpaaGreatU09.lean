/- A part. -/
import Derived.Test.YtlendfhehhacpaaGreatU06
import Derived.Laws.AppendOwn
set_option linter.unusedVariables false
set_option linter.unusedSimpArgs false
set_option maxRecDepth 100000
set_option maxHeartbeats 8000000
namespace Go.Proofs.YtlendfhehhacpaaGreat
open Go.RowKit Tryz
structure BdAt (w : World) (b r d : Nat) (tv : Value) (dg : ByteArray) : Prop where
 c0 : w.cell? ⟨b, 0, none⟩ = some (.pointer (some ⟨r, 0, none⟩))
 c1 : w.cell? ⟨b, 1, none⟩ = some tv
 c2 : w.cell? ⟨b, 2, none⟩ = some (.string dg)
 c3 : w.cell? ⟨b, 3, none⟩ = some (.pointer (some ⟨r, 0, none⟩))
 c4 : w.cell? ⟨b, 4, none⟩ = some (.pointer (some ⟨d, 0, none⟩))
 c5 : w.cell? ⟨b, 5, none⟩ = some (.pointer (some ⟨r, 0, none⟩))
 fz : ∀ o, w.frozen? ⟨b, o, none⟩ = false
 lt : b < w.heap.size
theorem BdAt.of_block {w w' : World} {b r d : Nat} {tv : Value} {dg : ByteArray} (h : BdAt w b r d tv dg) (hb : w'.heap[b]? = w.heap[b]?) (hz : w.heap.size ≤ w'.heap.size) : BdAt w' b r d tv dg := by
 have hc : ∀ o, w'.cell? ⟨b, o, none⟩ = w.cell? ⟨b, o, none⟩ := fun o => World.cell?_of_block (w := w) hb
 have hf : ∀ o, w'.frozen? ⟨b, o, none⟩ = w.frozen? ⟨b, o, none⟩ := fun o => World.frozen?_of_block (w := w) hb
 exact ⟨(hc _).trans h.c0, (hc _).trans h.c1, (hc _).trans h.c2, (hc _).trans h.c3, (hc _).trans h.c4, (hc _).trans h.c5, fun o => (hf o).trans (h.fz o), Nat.lt_of_lt_of_le h.lt hz⟩
theorem BdAt.below {w w' : World} {b r d : Nat} {tv : Value} {dg : ByteArray} (h : BdAt w b r d tv dg) (hb : Below w.heap.size w w') : BdAt w' b r d tv dg := h.of_block (hb.block b h.lt) hb.size
theorem BdAt.alloc {w : World} {b r d : Nat} {tv : Value} {dg : ByteArray} (h : BdAt w b r d tv dg) (o : Obj) : BdAt (w.alloc o) b r d tv dg := h.below ((Below.refl _ _).alloc (Nat.le_refl _) _)
theorem BdAt.drewN {w : World} {b r d : Nat} {tv : Value} {dg : ByteArray} (h : BdAt w b r d tv dg) (n : Nat) : BdAt (w.drewN n) b r d tv dg := h.below (below_drewN (Below.refl _ _) _)
theorem BdAt.drew {w : World} {b r d : Nat} {tv : Value} {dg : ByteArray} (h : BdAt w b r d tv dg) : BdAt w.drew b r d tv dg := h.below (Below.refl _ _).drew
theorem BdAt.upd {S : List Nat} {w w' : World} {b r d : Nat} {tv : Value} {dg : ByteArray} (h : BdAt w b r d tv dg) (hu : Upd S w w') (hn : b ∉ S) : BdAt w' b r d tv dg := h.of_block (hu.block b h.lt hn) hu.size
theorem BdAt.other {w : World} {b r d : Nat} {tv : Value} {dg : ByteArray} (h : BdAt w b r d tv dg) {q : Addr} (hp : b ≠ q.block) (u : Value) : BdAt (w.setCell q u) b r d tv dg := h.of_block (Below.heap_setCell _ _ _ _ hp) (by simp [World.setCell])
theorem BdAt.set_tv {w : World} {b r d : Nat} {tv : Value} {dg : ByteArray} (h : BdAt w b r d tv dg) (x : Value) : BdAt (w.setCell ⟨b, 1, none⟩ (x)) b r d x dg :=
 ⟨(cell_set_off qd).trans h.c0, cell_set_same h.c1, (cell_set_off qd).trans h.c2, (cell_set_off qd).trans h.c3, (cell_set_off qd).trans h.c4, (cell_set_off qd).trans h.c5, fun o => frozen_set.trans (h.fz o), by simp [World.setCell]; exact h.lt⟩
theorem BdAt.set_dg {w : World} {b r d : Nat} {tv : Value} {dg : ByteArray} (h : BdAt w b r d tv dg) (x : ByteArray) : BdAt (w.setCell ⟨b, 2, none⟩ (.string x)) b r d tv x :=
 ⟨(cell_set_off qd).trans h.c0, (cell_set_off qd).trans h.c1, cell_set_same h.c2, (cell_set_off qd).trans h.c3, (cell_set_off qd).trans h.c4, (cell_set_off qd).trans h.c5, fun o => frozen_set.trans (h.fz o), by simp [World.setCell]; exact h.lt⟩
