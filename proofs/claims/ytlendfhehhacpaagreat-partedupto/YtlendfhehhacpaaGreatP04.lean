/- A part. -/
import Derived.Test.YtlendfhehhacpaaGreatP02
import Derived.Laws.AppendOwn
import Derived.Laws.StructEq
set_option linter.unusedVariables false
set_option linter.unusedSimpArgs false
set_option maxRecDepth 100000
set_option maxHeartbeats 8000000
namespace Go.Proofs.YtlendfhehhacpaaGreat
open Go.RowKit
structure Five (w : World) (b : Nat) (s : ByteArray) (p n : Int) (v c : Bool) : Prop where
 c0 : w.cell? ⟨b, 0, none⟩ = some (.string s)
 c1 : w.cell? ⟨b, 1, none⟩ = some (.int .i64 p)
 c2 : w.cell? ⟨b, 2, none⟩ = some (.int .i64 n)
 c3 : w.cell? ⟨b, 3, none⟩ = some (.bool v)
 c4 : w.cell? ⟨b, 4, none⟩ = some (.bool c)
 fz : ∀ o, w.frozen? ⟨b, o, none⟩ = false
 lt : b < w.heap.size
theorem Five.of_block {w w' : World} {b : Nat} {s : ByteArray} {p n : Int} {v c : Bool} (h : Five w b s p n v c) (hb : w'.heap[b]? = w.heap[b]?) (hz : w.heap.size ≤ w'.heap.size) : Five w' b s p n v c := by
 have hc : ∀ o, w'.cell? ⟨b, o, none⟩ = w.cell? ⟨b, o, none⟩ := fun o => World.cell?_of_block (w := w) hb
 have hf : ∀ o, w'.frozen? ⟨b, o, none⟩ = w.frozen? ⟨b, o, none⟩ := fun o => World.frozen?_of_block (w := w) hb
 exact ⟨(hc _).trans h.c0, (hc _).trans h.c1, (hc _).trans h.c2, (hc _).trans h.c3, (hc _).trans h.c4, fun o => (hf o).trans (h.fz o), Nat.lt_of_lt_of_le h.lt hz⟩
theorem Five.below {w w' : World} {b : Nat} {s : ByteArray} {p n : Int} {v c : Bool} (h : Five w b s p n v c) (hb : Below w.heap.size w w') : Five w' b s p n v c := h.of_block (hb.block b h.lt) hb.size
theorem Five.alloc {w : World} {b : Nat} {s : ByteArray} {p n : Int} {v c : Bool} (h : Five w b s p n v c) (o : Obj) : Five (w.alloc o) b s p n v c := h.below ((Below.refl _ _).alloc (Nat.le_refl _) _)
theorem Five.drewN {w : World} {b : Nat} {s : ByteArray} {p n : Int} {v c : Bool} (h : Five w b s p n v c) (k : Nat) : Five (w.drewN k) b s p n v c := h.below (below_drewN (Below.refl _ _) _)
theorem Five.drew {w : World} {b : Nat} {s : ByteArray} {p n : Int} {v c : Bool} (h : Five w b s p n v c) : Five w.drew b s p n v c := h.below (Below.refl _ _).drew
theorem Five.other {w : World} {b : Nat} {s : ByteArray} {p n : Int} {v c : Bool} (h : Five w b s p n v c) {q : Addr} (hp : b ≠ q.block) (u : Value) : Five (w.setCell q u) b s p n v c :=
 h.of_block (Below.heap_setCell _ _ _ _ hp) (by simp [World.setCell])
theorem Five.new (w : World) (s : ByteArray) (p n : Int) (v c : Bool) (t : Nat) : Five (w.alloc (.cells #[.string s, .int .i64 p, .int .i64 n, .bool v, .bool c] t)) w.heap.size s p n v c :=
 ⟨by simp, by simp, by simp, by simp, by simp, by simp, by simp⟩
theorem f_o {w : World} {b : Nat} {s : ByteArray} {p n : Int} {v c : Bool} (h : Five w b s p n v c) {q : Addr} (u : Value) (hp : b ≠ q.block := by first | omega | (simp <;> omega)) : Five (w.setCell q u) b s p n v c := h.other hp u
theorem qF {w : World} {b : Nat} {s : ByteArray} {p n : Int} {v c : Bool} (h : Five w b s p n v c := by repeat (with_reducible first | assumption | refine f_o ?_ _ | refine Five.alloc ?_ _ | refine Five.drewN ?_ _ | refine Five.drew ?_ | refine Five.below ?_ (by with_reducible assumption))) : Five w b s p n v c := h
structure Pg where
 t : ByteArray
 pl : Nat
 anchor : Nat
 mode : Int
 regs : Value
 now : ByteArray
 back : Value
 forth : Value
 fnd : Int
 findC : Int
 reg : Int
 n : Nat
 verb : Int
 behind : Nat
 part : Int
structure DkAt (w : World) (d : Nat) (p : Pg) : Prop where
 c0 : w.cell? ⟨d, 0, none⟩ = some (.string p.t)
 c1 : w.cell? ⟨d, 1, none⟩ = some (.int .i64 (p.pl : Nat))
 c2 : w.cell? ⟨d, 2, none⟩ = some (.int .i64 (p.anchor : Nat))
 c3 : w.cell? ⟨d, 3, none⟩ = some (.int .i64 p.mode)
 c4 : w.cell? ⟨d, 4, none⟩ = some (p.regs)
 c5 : w.cell? ⟨d, 5, none⟩ = some (.string p.now)
 c6 : w.cell? ⟨d, 6, none⟩ = some (p.back)
 c7 : w.cell? ⟨d, 7, none⟩ = some (p.forth)
 c8 : w.cell? ⟨d, 8, none⟩ = some (.int .u8 p.fnd)
 c9 : w.cell? ⟨d, 9, none⟩ = some (.int .u8 p.findC)
 fz : ∀ o, w.frozen? ⟨d, o, none⟩ = false
 lt : d < w.heap.size
structure BgAt (w : World) (r d : Nat) (p : Pg) : Prop where
 c0 : w.cell? ⟨r, 0, none⟩ = some (.pointer (some ⟨d, 0, none⟩))
 c1 : w.cell? ⟨r, 1, none⟩ = some (.int .u8 p.reg)
 c2 : w.cell? ⟨r, 2, none⟩ = some (.int .i64 (p.n : Nat))
 c3 : w.cell? ⟨r, 3, none⟩ = some (.int .u8 p.verb)
 c4 : w.cell? ⟨r, 4, none⟩ = some (.int .i64 (p.behind : Nat))
 c5 : w.cell? ⟨r, 5, none⟩ = some (.int .u8 p.part)
 fz : ∀ o, w.frozen? ⟨r, o, none⟩ = false
 lt : r < w.heap.size
structure RdAt (w : World) (r d : Nat) (p : Pg) : Prop where
 dk : DkAt w d p
 bg : BgAt w r d p
 ne : r ≠ d
theorem DkAt.of_block {w w' : World} {d : Nat} {p : Pg} (h : DkAt w d p) (hb : w'.heap[d]? = w.heap[d]?) (hz : w.heap.size ≤ w'.heap.size) : DkAt w' d p := by
 have hc : ∀ o, w'.cell? ⟨d, o, none⟩ = w.cell? ⟨d, o, none⟩ := fun o => World.cell?_of_block (w := w) hb
 have hf : ∀ o, w'.frozen? ⟨d, o, none⟩ = w.frozen? ⟨d, o, none⟩ := fun o => World.frozen?_of_block (w := w) hb
 exact ⟨(hc _).trans h.c0, (hc _).trans h.c1, (hc _).trans h.c2, (hc _).trans h.c3, (hc _).trans h.c4, (hc _).trans h.c5, (hc _).trans h.c6, (hc _).trans h.c7, (hc _).trans h.c8, (hc _).trans h.c9, fun o => (hf o).trans (h.fz o), Nat.lt_of_lt_of_le h.lt hz⟩
theorem DkAt.other {w : World} {d : Nat} {p : Pg} (h : DkAt w d p) {q : Addr} (hp : d ≠ q.block) (u : Value) : DkAt (w.setCell q u) d p := h.of_block (Below.heap_setCell _ _ _ _ hp) (by simp [World.setCell])
theorem BgAt.of_block {w w' : World} {r d : Nat} {p : Pg} (h : BgAt w r d p) (hb : w'.heap[r]? = w.heap[r]?) (hz : w.heap.size ≤ w'.heap.size) : BgAt w' r d p := by
 have hc : ∀ o, w'.cell? ⟨r, o, none⟩ = w.cell? ⟨r, o, none⟩ := fun o => World.cell?_of_block (w := w) hb
 have hf : ∀ o, w'.frozen? ⟨r, o, none⟩ = w.frozen? ⟨r, o, none⟩ := fun o => World.frozen?_of_block (w := w) hb
 exact ⟨(hc _).trans h.c0, (hc _).trans h.c1, (hc _).trans h.c2, (hc _).trans h.c3, (hc _).trans h.c4, (hc _).trans h.c5, fun o => (hf o).trans (h.fz o), Nat.lt_of_lt_of_le h.lt hz⟩
theorem BgAt.other {w : World} {r d : Nat} {p : Pg} (h : BgAt w r d p) {q : Addr} (hp : r ≠ q.block) (u : Value) : BgAt (w.setCell q u) r d p := h.of_block (Below.heap_setCell _ _ _ _ hp) (by simp [World.setCell])
theorem RdAt.of_block {w w' : World} {r d : Nat} {p : Pg} (h : RdAt w r d p) (hr : w'.heap[r]? = w.heap[r]?) (hd : w'.heap[d]? = w.heap[d]?) (hz : w.heap.size ≤ w'.heap.size) : RdAt w' r d p := ⟨h.dk.of_block hd hz, h.bg.of_block hr hz, h.ne⟩
theorem RdAt.below {w w' : World} {r d : Nat} {p : Pg} (h : RdAt w r d p) (hb : Below w.heap.size w w') : RdAt w' r d p := h.of_block (hb.block r h.bg.lt) (hb.block d h.dk.lt) hb.size
theorem RdAt.alloc {w : World} {r d : Nat} {p : Pg} (h : RdAt w r d p) (o : Obj) : RdAt (w.alloc o) r d p := h.below ((Below.refl _ _).alloc (Nat.le_refl _) _)
theorem RdAt.drewN {w : World} {r d : Nat} {p : Pg} (h : RdAt w r d p) (n : Nat) : RdAt (w.drewN n) r d p := h.below (below_drewN (Below.refl _ _) _)
theorem RdAt.drew {w : World} {r d : Nat} {p : Pg} (h : RdAt w r d p) : RdAt w.drew r d p := h.below (Below.refl _ _).drew
theorem RdAt.upd {S : List Nat} {w w' : World} {r d : Nat} {p : Pg} (h : RdAt w r d p) (hu : Upd S w w') (hr : r ∉ S) (hd : d ∉ S) : RdAt w' r d p := h.of_block (hu.block r h.bg.lt hr) (hu.block d h.dk.lt hd) hu.size
theorem RdAt.other {w : World} {r d : Nat} {p : Pg} (h : RdAt w r d p) {q : Addr} (hr : r ≠ q.block) (hd : d ≠ q.block) (u : Value) : RdAt (w.setCell q u) r d p := ⟨h.dk.other hd u, h.bg.other hr u, h.ne⟩
theorem DkAt.beg {w : World} {d : Nat} {p : Pg} (h : DkAt w d p) (a : Int) (b : Nat) (c : Int) (e : Nat) (g : Int) : DkAt w d { p with reg := a, n := b, verb := c, behind := e, part := g } := ⟨h.c0, h.c1, h.c2, h.c3, h.c4, h.c5, h.c6, h.c7, h.c8, h.c9, h.fz, h.lt⟩
theorem DkAt.set_t {w : World} {d : Nat} {p : Pg} (h : DkAt w d p) (x : ByteArray) : DkAt (w.setCell ⟨d, 0, none⟩ (.string x)) d { p with t := x } :=
 ⟨cell_set_same h.c0, (cell_set_off qd).trans h.c1, (cell_set_off qd).trans h.c2, (cell_set_off qd).trans h.c3, (cell_set_off qd).trans h.c4, (cell_set_off qd).trans h.c5, (cell_set_off qd).trans h.c6, (cell_set_off qd).trans h.c7, (cell_set_off qd).trans h.c8, (cell_set_off qd).trans h.c9, fun o => frozen_set.trans (h.fz o), by simp [World.setCell]; exact h.lt⟩
theorem RdAt.set_t {w : World} {r d : Nat} {p : Pg} (h : RdAt w r d p) (x : ByteArray) : RdAt (w.setCell ⟨d, 0, none⟩ (.string x)) r d { p with t := x } :=
 ⟨h.dk.set_t x, by have b := h.bg.other (q := ⟨d, 0, none⟩) h.ne (.string x); exact ⟨b.c0, b.c1, b.c2, b.c3, b.c4, b.c5, b.fz, b.lt⟩, h.ne⟩
theorem DkAt.set_pl {w : World} {d : Nat} {p : Pg} (h : DkAt w d p) (x : Nat) : DkAt (w.setCell ⟨d, 1, none⟩ (.int .i64 (x : Nat))) d { p with pl := x } :=
 ⟨(cell_set_off qd).trans h.c0, cell_set_same h.c1, (cell_set_off qd).trans h.c2, (cell_set_off qd).trans h.c3, (cell_set_off qd).trans h.c4, (cell_set_off qd).trans h.c5, (cell_set_off qd).trans h.c6, (cell_set_off qd).trans h.c7, (cell_set_off qd).trans h.c8, (cell_set_off qd).trans h.c9, fun o => frozen_set.trans (h.fz o), by simp [World.setCell]; exact h.lt⟩
theorem RdAt.set_pl {w : World} {r d : Nat} {p : Pg} (h : RdAt w r d p) (x : Nat) : RdAt (w.setCell ⟨d, 1, none⟩ (.int .i64 (x : Nat))) r d { p with pl := x } :=
 ⟨h.dk.set_pl x, by have b := h.bg.other (q := ⟨d, 1, none⟩) h.ne (.int .i64 (x : Nat)); exact ⟨b.c0, b.c1, b.c2, b.c3, b.c4, b.c5, b.fz, b.lt⟩, h.ne⟩
theorem DkAt.set_anchor {w : World} {d : Nat} {p : Pg} (h : DkAt w d p) (x : Nat) : DkAt (w.setCell ⟨d, 2, none⟩ (.int .i64 (x : Nat))) d { p with anchor := x } :=
 ⟨(cell_set_off qd).trans h.c0, (cell_set_off qd).trans h.c1, cell_set_same h.c2, (cell_set_off qd).trans h.c3, (cell_set_off qd).trans h.c4, (cell_set_off qd).trans h.c5, (cell_set_off qd).trans h.c6, (cell_set_off qd).trans h.c7, (cell_set_off qd).trans h.c8, (cell_set_off qd).trans h.c9, fun o => frozen_set.trans (h.fz o), by simp [World.setCell]; exact h.lt⟩
theorem RdAt.set_anchor {w : World} {r d : Nat} {p : Pg} (h : RdAt w r d p) (x : Nat) : RdAt (w.setCell ⟨d, 2, none⟩ (.int .i64 (x : Nat))) r d { p with anchor := x } :=
 ⟨h.dk.set_anchor x, by have b := h.bg.other (q := ⟨d, 2, none⟩) h.ne (.int .i64 (x : Nat)); exact ⟨b.c0, b.c1, b.c2, b.c3, b.c4, b.c5, b.fz, b.lt⟩, h.ne⟩
theorem DkAt.set_mode {w : World} {d : Nat} {p : Pg} (h : DkAt w d p) (x : Int) : DkAt (w.setCell ⟨d, 3, none⟩ (.int .i64 x)) d { p with mode := x } :=
 ⟨(cell_set_off qd).trans h.c0, (cell_set_off qd).trans h.c1, (cell_set_off qd).trans h.c2, cell_set_same h.c3, (cell_set_off qd).trans h.c4, (cell_set_off qd).trans h.c5, (cell_set_off qd).trans h.c6, (cell_set_off qd).trans h.c7, (cell_set_off qd).trans h.c8, (cell_set_off qd).trans h.c9, fun o => frozen_set.trans (h.fz o), by simp [World.setCell]; exact h.lt⟩
theorem RdAt.set_mode {w : World} {r d : Nat} {p : Pg} (h : RdAt w r d p) (x : Int) : RdAt (w.setCell ⟨d, 3, none⟩ (.int .i64 x)) r d { p with mode := x } :=
 ⟨h.dk.set_mode x, by have b := h.bg.other (q := ⟨d, 3, none⟩) h.ne (.int .i64 x); exact ⟨b.c0, b.c1, b.c2, b.c3, b.c4, b.c5, b.fz, b.lt⟩, h.ne⟩
theorem DkAt.set_now {w : World} {d : Nat} {p : Pg} (h : DkAt w d p) (x : ByteArray) : DkAt (w.setCell ⟨d, 5, none⟩ (.string x)) d { p with now := x } :=
 ⟨(cell_set_off qd).trans h.c0, (cell_set_off qd).trans h.c1, (cell_set_off qd).trans h.c2, (cell_set_off qd).trans h.c3, (cell_set_off qd).trans h.c4, cell_set_same h.c5, (cell_set_off qd).trans h.c6, (cell_set_off qd).trans h.c7, (cell_set_off qd).trans h.c8, (cell_set_off qd).trans h.c9, fun o => frozen_set.trans (h.fz o), by simp [World.setCell]; exact h.lt⟩
theorem RdAt.set_now {w : World} {r d : Nat} {p : Pg} (h : RdAt w r d p) (x : ByteArray) : RdAt (w.setCell ⟨d, 5, none⟩ (.string x)) r d { p with now := x } :=
 ⟨h.dk.set_now x, by have b := h.bg.other (q := ⟨d, 5, none⟩) h.ne (.string x); exact ⟨b.c0, b.c1, b.c2, b.c3, b.c4, b.c5, b.fz, b.lt⟩, h.ne⟩
theorem DkAt.set_back {w : World} {d : Nat} {p : Pg} (h : DkAt w d p) (x : Value) : DkAt (w.setCell ⟨d, 6, none⟩ (x)) d { p with back := x } :=
 ⟨(cell_set_off qd).trans h.c0, (cell_set_off qd).trans h.c1, (cell_set_off qd).trans h.c2, (cell_set_off qd).trans h.c3, (cell_set_off qd).trans h.c4, (cell_set_off qd).trans h.c5, cell_set_same h.c6, (cell_set_off qd).trans h.c7, (cell_set_off qd).trans h.c8, (cell_set_off qd).trans h.c9, fun o => frozen_set.trans (h.fz o), by simp [World.setCell]; exact h.lt⟩
theorem RdAt.set_back {w : World} {r d : Nat} {p : Pg} (h : RdAt w r d p) (x : Value) : RdAt (w.setCell ⟨d, 6, none⟩ (x)) r d { p with back := x } :=
 ⟨h.dk.set_back x, by have b := h.bg.other (q := ⟨d, 6, none⟩) h.ne (x); exact ⟨b.c0, b.c1, b.c2, b.c3, b.c4, b.c5, b.fz, b.lt⟩, h.ne⟩
theorem DkAt.set_forth {w : World} {d : Nat} {p : Pg} (h : DkAt w d p) (x : Value) : DkAt (w.setCell ⟨d, 7, none⟩ (x)) d { p with forth := x } :=
 ⟨(cell_set_off qd).trans h.c0, (cell_set_off qd).trans h.c1, (cell_set_off qd).trans h.c2, (cell_set_off qd).trans h.c3, (cell_set_off qd).trans h.c4, (cell_set_off qd).trans h.c5, (cell_set_off qd).trans h.c6, cell_set_same h.c7, (cell_set_off qd).trans h.c8, (cell_set_off qd).trans h.c9, fun o => frozen_set.trans (h.fz o), by simp [World.setCell]; exact h.lt⟩
theorem RdAt.set_forth {w : World} {r d : Nat} {p : Pg} (h : RdAt w r d p) (x : Value) : RdAt (w.setCell ⟨d, 7, none⟩ (x)) r d { p with forth := x } :=
 ⟨h.dk.set_forth x, by have b := h.bg.other (q := ⟨d, 7, none⟩) h.ne (x); exact ⟨b.c0, b.c1, b.c2, b.c3, b.c4, b.c5, b.fz, b.lt⟩, h.ne⟩
theorem DkAt.set_fnd {w : World} {d : Nat} {p : Pg} (h : DkAt w d p) (x : Int) : DkAt (w.setCell ⟨d, 8, none⟩ (.int .u8 x)) d { p with fnd := x } :=
 ⟨(cell_set_off qd).trans h.c0, (cell_set_off qd).trans h.c1, (cell_set_off qd).trans h.c2, (cell_set_off qd).trans h.c3, (cell_set_off qd).trans h.c4, (cell_set_off qd).trans h.c5, (cell_set_off qd).trans h.c6, (cell_set_off qd).trans h.c7, cell_set_same h.c8, (cell_set_off qd).trans h.c9, fun o => frozen_set.trans (h.fz o), by simp [World.setCell]; exact h.lt⟩
theorem RdAt.set_fnd {w : World} {r d : Nat} {p : Pg} (h : RdAt w r d p) (x : Int) : RdAt (w.setCell ⟨d, 8, none⟩ (.int .u8 x)) r d { p with fnd := x } :=
 ⟨h.dk.set_fnd x, by have b := h.bg.other (q := ⟨d, 8, none⟩) h.ne (.int .u8 x); exact ⟨b.c0, b.c1, b.c2, b.c3, b.c4, b.c5, b.fz, b.lt⟩, h.ne⟩
theorem DkAt.set_findC {w : World} {d : Nat} {p : Pg} (h : DkAt w d p) (x : Int) : DkAt (w.setCell ⟨d, 9, none⟩ (.int .u8 x)) d { p with findC := x } :=
 ⟨(cell_set_off qd).trans h.c0, (cell_set_off qd).trans h.c1, (cell_set_off qd).trans h.c2, (cell_set_off qd).trans h.c3, (cell_set_off qd).trans h.c4, (cell_set_off qd).trans h.c5, (cell_set_off qd).trans h.c6, (cell_set_off qd).trans h.c7, (cell_set_off qd).trans h.c8, cell_set_same h.c9, fun o => frozen_set.trans (h.fz o), by simp [World.setCell]; exact h.lt⟩
theorem RdAt.set_findC {w : World} {r d : Nat} {p : Pg} (h : RdAt w r d p) (x : Int) : RdAt (w.setCell ⟨d, 9, none⟩ (.int .u8 x)) r d { p with findC := x } :=
 ⟨h.dk.set_findC x, by have b := h.bg.other (q := ⟨d, 9, none⟩) h.ne (.int .u8 x); exact ⟨b.c0, b.c1, b.c2, b.c3, b.c4, b.c5, b.fz, b.lt⟩, h.ne⟩
theorem BgAt.set_reg {w : World} {r d : Nat} {p : Pg} (h : BgAt w r d p) (x : Int) : BgAt (w.setCell ⟨r, 1, none⟩ (.int .u8 x)) r d { p with reg := x } :=
 ⟨(cell_set_off qd).trans h.c0, cell_set_same h.c1, (cell_set_off qd).trans h.c2, (cell_set_off qd).trans h.c3, (cell_set_off qd).trans h.c4, (cell_set_off qd).trans h.c5, fun o => frozen_set.trans (h.fz o), by simp [World.setCell]; exact h.lt⟩
theorem RdAt.set_reg {w : World} {r d : Nat} {p : Pg} (h : RdAt w r d p) (x : Int) : RdAt (w.setCell ⟨r, 1, none⟩ (.int .u8 x)) r d { p with reg := x } :=
 ⟨by have b := h.dk.other (q := ⟨r, 1, none⟩) (Ne.symm h.ne) (.int .u8 x); exact ⟨b.c0, b.c1, b.c2, b.c3, b.c4, b.c5, b.c6, b.c7, b.c8, b.c9, b.fz, b.lt⟩, h.bg.set_reg x, h.ne⟩
theorem BgAt.set_n {w : World} {r d : Nat} {p : Pg} (h : BgAt w r d p) (x : Nat) : BgAt (w.setCell ⟨r, 2, none⟩ (.int .i64 (x : Nat))) r d { p with n := x } :=
 ⟨(cell_set_off qd).trans h.c0, (cell_set_off qd).trans h.c1, cell_set_same h.c2, (cell_set_off qd).trans h.c3, (cell_set_off qd).trans h.c4, (cell_set_off qd).trans h.c5, fun o => frozen_set.trans (h.fz o), by simp [World.setCell]; exact h.lt⟩
theorem RdAt.set_n {w : World} {r d : Nat} {p : Pg} (h : RdAt w r d p) (x : Nat) : RdAt (w.setCell ⟨r, 2, none⟩ (.int .i64 (x : Nat))) r d { p with n := x } :=
 ⟨by have b := h.dk.other (q := ⟨r, 2, none⟩) (Ne.symm h.ne) (.int .i64 (x : Nat)); exact ⟨b.c0, b.c1, b.c2, b.c3, b.c4, b.c5, b.c6, b.c7, b.c8, b.c9, b.fz, b.lt⟩, h.bg.set_n x, h.ne⟩
theorem BgAt.set_verb {w : World} {r d : Nat} {p : Pg} (h : BgAt w r d p) (x : Int) : BgAt (w.setCell ⟨r, 3, none⟩ (.int .u8 x)) r d { p with verb := x } :=
 ⟨(cell_set_off qd).trans h.c0, (cell_set_off qd).trans h.c1, (cell_set_off qd).trans h.c2, cell_set_same h.c3, (cell_set_off qd).trans h.c4, (cell_set_off qd).trans h.c5, fun o => frozen_set.trans (h.fz o), by simp [World.setCell]; exact h.lt⟩
theorem RdAt.set_verb {w : World} {r d : Nat} {p : Pg} (h : RdAt w r d p) (x : Int) : RdAt (w.setCell ⟨r, 3, none⟩ (.int .u8 x)) r d { p with verb := x } :=
 ⟨by have b := h.dk.other (q := ⟨r, 3, none⟩) (Ne.symm h.ne) (.int .u8 x); exact ⟨b.c0, b.c1, b.c2, b.c3, b.c4, b.c5, b.c6, b.c7, b.c8, b.c9, b.fz, b.lt⟩, h.bg.set_verb x, h.ne⟩
theorem BgAt.set_behind {w : World} {r d : Nat} {p : Pg} (h : BgAt w r d p) (x : Nat) : BgAt (w.setCell ⟨r, 4, none⟩ (.int .i64 (x : Nat))) r d { p with behind := x } :=
 ⟨(cell_set_off qd).trans h.c0, (cell_set_off qd).trans h.c1, (cell_set_off qd).trans h.c2, (cell_set_off qd).trans h.c3, cell_set_same h.c4, (cell_set_off qd).trans h.c5, fun o => frozen_set.trans (h.fz o), by simp [World.setCell]; exact h.lt⟩
theorem RdAt.set_behind {w : World} {r d : Nat} {p : Pg} (h : RdAt w r d p) (x : Nat) : RdAt (w.setCell ⟨r, 4, none⟩ (.int .i64 (x : Nat))) r d { p with behind := x } :=
 ⟨by have b := h.dk.other (q := ⟨r, 4, none⟩) (Ne.symm h.ne) (.int .i64 (x : Nat)); exact ⟨b.c0, b.c1, b.c2, b.c3, b.c4, b.c5, b.c6, b.c7, b.c8, b.c9, b.fz, b.lt⟩, h.bg.set_behind x, h.ne⟩
theorem BgAt.set_part {w : World} {r d : Nat} {p : Pg} (h : BgAt w r d p) (x : Int) : BgAt (w.setCell ⟨r, 5, none⟩ (.int .u8 x)) r d { p with part := x } :=
 ⟨(cell_set_off qd).trans h.c0, (cell_set_off qd).trans h.c1, (cell_set_off qd).trans h.c2, (cell_set_off qd).trans h.c3, (cell_set_off qd).trans h.c4, cell_set_same h.c5, fun o => frozen_set.trans (h.fz o), by simp [World.setCell]; exact h.lt⟩
theorem RdAt.set_part {w : World} {r d : Nat} {p : Pg} (h : RdAt w r d p) (x : Int) : RdAt (w.setCell ⟨r, 5, none⟩ (.int .u8 x)) r d { p with part := x } :=
 ⟨by have b := h.dk.other (q := ⟨r, 5, none⟩) (Ne.symm h.ne) (.int .u8 x); exact ⟨b.c0, b.c1, b.c2, b.c3, b.c4, b.c5, b.c6, b.c7, b.c8, b.c9, b.fz, b.lt⟩, h.bg.set_part x, h.ne⟩
theorem r_o {w : World} {r d : Nat} {p : Pg} (h : RdAt w r d p) {q : Addr} (u : Value) (hr : r ≠ q.block := by first | omega | (simp <;> omega)) (hd : d ≠ q.block := by first | omega | (simp <;> omega)) : RdAt (w.setCell q u) r d p := h.other hr hd u
theorem qRd {w : World} {r d : Nat} {p : Pg} (h : RdAt w r d p := by repeat (with_reducible first | assumption | refine r_o ?_ _ | refine RdAt.alloc ?_ _ | refine RdAt.drewN ?_ _ | refine RdAt.drew ?_ | refine RdAt.below ?_ (by with_reducible assumption))) : RdAt w r d p := h
structure BdAt (w : World) (b r d : Nat) (tv : Value) (dg : ByteArray) : Prop where
 c0 : w.cell? ⟨b, 0, none⟩ = some (.pointer (some ⟨r, 0, none⟩))
 c1 : w.cell? ⟨b, 1, none⟩ = some tv
 c2 : w.cell? ⟨b, 2, none⟩ = some (.string dg)
 c3 : w.cell? ⟨b, 3, none⟩ = some (.pointer (some ⟨r, 0, none⟩))
 c4 : w.cell? ⟨b, 4, none⟩ = some (.pointer (some ⟨d, 0, none⟩))
 c5 : w.cell? ⟨b, 5, none⟩ = some (.pointer (some ⟨r, 0, none⟩))
 fz : ∀ o, w.frozen? ⟨b, o, none⟩ = false
 lt : b < w.heap.size
theorem BdAt.of_block {w w' : World} {b r d : Nat} {tv : Value} {dg : ByteArray} (h : BdAt w b r d tv dg) (hb : w'.heap[b]? = w.heap[b]?) (hz : w.heap.size ≤ w'.heap.size) : BdAt w' b r d tv dg := by
 have hc : ∀ o, w'.cell? ⟨b, o, none⟩ = w.cell? ⟨b, o, none⟩ := fun o => World.cell?_of_block (w := w) hb
 have hf : ∀ o, w'.frozen? ⟨b, o, none⟩ = w.frozen? ⟨b, o, none⟩ := fun o => World.frozen?_of_block (w := w) hb
 exact ⟨(hc _).trans h.c0, (hc _).trans h.c1, (hc _).trans h.c2, (hc _).trans h.c3, (hc _).trans h.c4, (hc _).trans h.c5, fun o => (hf o).trans (h.fz o), Nat.lt_of_lt_of_le h.lt hz⟩
theorem BdAt.below {w w' : World} {b r d : Nat} {tv : Value} {dg : ByteArray} (h : BdAt w b r d tv dg) (hb : Below w.heap.size w w') : BdAt w' b r d tv dg := h.of_block (hb.block b h.lt) hb.size
theorem BdAt.alloc {w : World} {b r d : Nat} {tv : Value} {dg : ByteArray} (h : BdAt w b r d tv dg) (o : Obj) : BdAt (w.alloc o) b r d tv dg := h.below ((Below.refl _ _).alloc (Nat.le_refl _) _)
theorem BdAt.drewN {w : World} {b r d : Nat} {tv : Value} {dg : ByteArray} (h : BdAt w b r d tv dg) (n : Nat) : BdAt (w.drewN n) b r d tv dg := h.below (below_drewN (Below.refl _ _) _)
theorem BdAt.drew {w : World} {b r d : Nat} {tv : Value} {dg : ByteArray} (h : BdAt w b r d tv dg) : BdAt w.drew b r d tv dg := h.below (Below.refl _ _).drew
theorem BdAt.upd {S : List Nat} {w w' : World} {b r d : Nat} {tv : Value} {dg : ByteArray} (h : BdAt w b r d tv dg) (hu : Upd S w w') (hn : b ∉ S) : BdAt w' b r d tv dg := h.of_block (hu.block b h.lt hn) hu.size
theorem BdAt.other {w : World} {b r d : Nat} {tv : Value} {dg : ByteArray} (h : BdAt w b r d tv dg) {q : Addr} (hp : b ≠ q.block) (u : Value) : BdAt (w.setCell q u) b r d tv dg := h.of_block (Below.heap_setCell _ _ _ _ hp) (by simp [World.setCell])
theorem BdAt.set_tv {w : World} {b r d : Nat} {tv : Value} {dg : ByteArray} (h : BdAt w b r d tv dg) (x : Value) : BdAt (w.setCell ⟨b, 1, none⟩ (x)) b r d x dg :=
 ⟨(cell_set_off qd).trans h.c0, cell_set_same h.c1, (cell_set_off qd).trans h.c2, (cell_set_off qd).trans h.c3, (cell_set_off qd).trans h.c4, (cell_set_off qd).trans h.c5, fun o => frozen_set.trans (h.fz o), by simp [World.setCell]; exact h.lt⟩
theorem BdAt.set_dg {w : World} {b r d : Nat} {tv : Value} {dg : ByteArray} (h : BdAt w b r d tv dg) (x : ByteArray) : BdAt (w.setCell ⟨b, 2, none⟩ (.string x)) b r d tv x :=
 ⟨(cell_set_off qd).trans h.c0, (cell_set_off qd).trans h.c1, cell_set_same h.c2, (cell_set_off qd).trans h.c3, (cell_set_off qd).trans h.c4, (cell_set_off qd).trans h.c5, fun o => frozen_set.trans (h.fz o), by simp [World.setCell]; exact h.lt⟩
theorem eqIn_int (d : Nat) (a b : Int) (w : World) : (Op.equalIn (d + 1) 3 (.int .i64 a) (.int .i64 b)).run Tryz.prog w = .ok (a == b) w := by
 simp [Op.equalIn, run_underlying Tryz.underlying3]
theorem eq_two_in (k : Nat) (a b c d : Int) (w : World) : (Op.equalIn (k + 2) 128 (.agg #[.int .i64 (a), .int .i64 (b)]) (.agg #[.int .i64 (c), .int .i64 (d)])).run Tryz.prog w = .ok ((a == c) && (b == d)) w := by
 have h := fun x y w => eqIn_int k x y w
 rw [show k + 2 = (k + 1) + 1 by omega]
 rw [Op.equalIn]
 simp only [Sem.run_bind, run_underlying Tryz.underlying128, Result.andThen_ok]
 simp [go_sem, part, h, Std.Legacy.Range.forIn_eq_forIn_range', List.range']
 by_cases h1 : a = c <;> by_cases h2 : b = d <;> simp [h1, h2]
theorem eq_two (a b c d : Int) (w : World) : (Op.equal 128 (.agg #[.int .i64 (a), .int .i64 (b)]) (.agg #[.int .i64 (c), .int .i64 (d)])).run Tryz.prog w = .ok ((a == c) && (b == d)) w := eq_two_in 9998 a b c d w
theorem neq_two (a b c d : Int) (w : World) : (binOp .neq 128 (.agg #[.int .i64 (a), .int .i64 (b)]) (.agg #[.int .i64 (c), .int .i64 (d)])).run Tryz.prog w = .ok (.bool (!((a == c) && (b == d)))) w := by
 have e : binOp .neq 128 (.agg #[.int .i64 (a), .int .i64 (b)]) (.agg #[.int .i64 (c), .int .i64 (d)]) = (do pure (.bool (!(← Op.equal 128 (.agg #[.int .i64 (a), .int .i64 (b)]) (.agg #[.int .i64 (c), .int .i64 (d)]))))) := rfl
 rw [e, Sem.run_bind, eq_two]
 rfl
theorem eql_two (a b c d : Int) (w : World) : (binOp .eql 128 (.agg #[.int .i64 (a), .int .i64 (b)]) (.agg #[.int .i64 (c), .int .i64 (d)])).run Tryz.prog w = .ok (.bool ((a == c) && (b == d))) w := by
 have e : binOp .eql 128 (.agg #[.int .i64 (a), .int .i64 (b)]) (.agg #[.int .i64 (c), .int .i64 (d)]) = (do pure (.bool (← Op.equal 128 (.agg #[.int .i64 (a), .int .i64 (b)]) (.agg #[.int .i64 (c), .int .i64 (d)])))) := rfl
 rw [e, Sem.run_bind, eq_two]
 rfl
theorem eqIn_u8 (d : Nat) (a b : Int) (w : World) : (Op.equalIn (d + 1) 5 (.int .u8 a) (.int .u8 b)).run Tryz.prog w = .ok (a == b) w := by
 simp [Op.equalIn, run_underlying Tryz.underlying5]
theorem eq_begun_in (k : Nat) (a b c d e : Int) (w : World) : (Op.equalIn (k + 2) 85 (.agg #[.int .u8 a, .int .i64 b, .int .u8 c, .int .i64 d, .int .u8 e]) (.agg #[.int .u8 0, .int .i64 0, .int .u8 0, .int .i64 0, .int .u8 0])).run Tryz.prog w = .ok ((a == 0) && (b == 0) && (c == 0) && (d == 0) && (e == 0)) w := by
 have h := fun x y w => eqIn_int k x y w
 have h' := fun x y w => eqIn_u8 k x y w
 rw [show k + 2 = (k + 1) + 1 by omega]
 rw [Op.equalIn]
 simp only [Sem.run_bind, run_underlying Tryz.underlying85, Result.andThen_ok]
 simp [go_sem, part, h, h', Std.Legacy.Range.forIn_eq_forIn_range', List.range']
 by_cases h1 : a = 0 <;> by_cases h2 : b = 0 <;> by_cases h3 : c = 0 <;> by_cases h4 : d = 0 <;> by_cases h5 : e = 0 <;> simp [h1, h2, h3, h4, h5]
theorem eq_begun (a b c d e : Int) (w : World) : (Op.equal 85 (.agg #[.int .u8 a, .int .i64 b, .int .u8 c, .int .i64 d, .int .u8 e]) (.agg #[.int .u8 0, .int .i64 0, .int .u8 0, .int .i64 0, .int .u8 0])).run Tryz.prog w = .ok ((a == 0) && (b == 0) && (c == 0) && (d == 0) && (e == 0)) w := eq_begun_in 9998 a b c d e w
theorem neq_begun (a b c d e : Int) (w : World) : (binOp .neq 85 (.agg #[.int .u8 a, .int .i64 b, .int .u8 c, .int .i64 d, .int .u8 e]) (.agg #[.int .u8 0, .int .i64 0, .int .u8 0, .int .i64 0, .int .u8 0])).run Tryz.prog w = .ok (.bool (!((a == 0) && (b == 0) && (c == 0) && (d == 0) && (e == 0)))) w := by
 have e : binOp .neq 85 (.agg #[.int .u8 a, .int .i64 b, .int .u8 c, .int .i64 d, .int .u8 e]) (.agg #[.int .u8 0, .int .i64 0, .int .u8 0, .int .i64 0, .int .u8 0]) = (do pure (.bool (!(← Op.equal 85 (.agg #[.int .u8 a, .int .i64 b, .int .u8 c, .int .i64 d, .int .u8 e]) (.agg #[.int .u8 0, .int .i64 0, .int .u8 0, .int .i64 0, .int .u8 0]))))) := rfl
 rw [e, Sem.run_bind, eq_begun]
 rfl
def waits (p : Pg) : Bool := !((p.reg == 0) && ((p.n : Int) == 0) && (p.verb == 0) && ((p.behind : Int) == 0) && (p.part == 0))
abbrev Pg.none' (p : Pg) : Pg := { p with reg := 0, n := 0, verb := 0, behind := 0, part := 0 }
theorem mWaiting (r d : Nat) (p : Pg) (w : World) (h : RdAt w r d p) :
  qC 39 #[.pointer (some ⟨r, 1, none⟩)] w (.bool (waits p)) := by
 obtain ⟨c0, c1, c2, c3, c4, c5, fz, lt⟩ := h.bg
 have hq := neq_begun p.reg p.n p.verb p.behind p.part
 have HW : Hid (waits p = !((p.reg == 0) && ((p.n : Int) == 0) && (p.verb == 0) && ((p.behind : Int) == 0) && (p.part == 0))) := rfl
 generalize waits p = y at *
 clear h
 have l1 : r < w.heap.size + 1 := by omega
 go_enter Tryz.func39, Tryz.ntmps39
 go_wp2
 exact qV (.bool (!((p.reg == 0) && ((p.n : Int) == 0) && (p.verb == 0) && ((p.behind : Int) == 0) && (p.part == 0)))) (by simp [results, Tryz.results39, go_sem]) (ret_bool (by rw [HW.out]))
theorem qt85 {P : Prop} (h : P := by
  go_wp2
  go_end0
  refine ⟨rfl, ?_, ?_⟩
  ·repeat exact qRd
  ·repeat exact qU
 ) : P := h
theorem mForget (r d : Nat) (p : Pg) (w : World) (h : RdAt w r d p) :
  Calls Tryz.prog 65 #[.pointer (some ⟨r, 1, none⟩)] w fun e w' => e = .returned (.tuple #[]) ∧ RdAt w' r d p.none' ∧ Upd [r] w w' := by
 have HF := ((((h.set_reg 0).set_n 0).set_verb 0).set_behind 0).set_part 0
 rw [show ((0 : Nat) : Int) = 0 from rfl] at HF
 obtain ⟨c0, c1, c2, c3, c4, c5, fz, lt⟩ := h.bg
 clear h
 go_enter Tryz.func65, Tryz.ntmps65
 exact qt85
theorem qt16 {P : Prop} (h : P := by
  go_wp2
  go_ret
  refine ⟨rfl, ?_, ?_⟩
  ·repeat exact qRd
  ·repeat exact qU
 ) : P := h
theorem mAwait (r d : Nat) (p : Pg) (part : Int) (w : World) (h : RdAt w r d p) :
  Calls Tryz.prog 142 #[.pointer (some ⟨r, 1, none⟩), .int .u8 part] w fun e w' => e = .returned (.int .i64 0) ∧ RdAt w' r d { p with part := part } ∧ Upd [r] w w' := by
 have HF := h.set_part part
 obtain ⟨c0, c1, c2, c3, c4, c5, fz, lt⟩ := h.bg
 clear h
 go_enter Tryz.func142, Tryz.ntmps142
 exact qt16
theorem mToNormal (r d : Nat) (p : Pg) (w : World) (h : RdAt w r d p) :
  Calls Tryz.prog 136 #[.pointer (some ⟨d, 0, none⟩)] w fun e w' => e = .returned (.tuple #[]) ∧ RdAt w' r d { p with mode := 0, anchor := 0 } ∧ Upd [d] w w' := by
 have HF := (h.set_mode 0).set_anchor 0
 rw [show ((0 : Nat) : Int) = 0 from rfl] at HF
 obtain ⟨c0, c1, c2, c3, c4, c5, c6, c7, c8, c9, fz, lt⟩ := h.dk
 clear h c0 c1 c4 c5 c6 c7 c8 c9
 go_enter Tryz.func136, Tryz.ntmps136
 exact qt85
theorem mMark (r d : Nat) (p : Pg) (mode : Int) (w : World) (h : RdAt w r d p) :
  Calls Tryz.prog 150 #[.pointer (some ⟨d, 0, none⟩), .int .i64 mode] w fun e w' => e = .returned (.tuple #[]) ∧ RdAt w' r d { p with mode := mode, anchor := p.pl } ∧ Upd [d] w w' := by
 have HF := (h.set_mode mode).set_anchor p.pl
 obtain ⟨c0, c1, c2, c3, c4, c5, c6, c7, c8, c9, fz, lt⟩ := h.dk
 clear h c0 c4 c5 c6 c7 c8 c9
 go_enter Tryz.func150, Tryz.ntmps150
 exact qt85
theorem mMoveTo (r d : Nat) (p : Pg) (place : Int) (k : Nat) (w : World) (h : RdAt w r d p) (hs : p.t.size ≤ 1000) (e : place = k) (hk : k ≤ p.t.size) :
  Calls Tryz.prog 179 #[.pointer (some ⟨d, 0, none⟩), .int .i64 place] w fun e w' => e = .returned (.tuple #[]) ∧ RdAt w' r d { p with pl := Nib.clm p.t k } ∧ Upd [d] w w' := by
 subst e
 have HL : qH 195 #[.string p.t, .int .i64 k] (.agg #[.int .i64 (Nib.beg p.t k), .int .i64 (Nib.fin p.t k)]) := fun ww => tLine_any p.t k k ww hs rfl hk
 have hb1 := Nib.beg_le p.t k
 have hf1 := Nib.fin_le hk
 have HT : qH 202 #[.agg #[.int .i64 (Nib.beg p.t k), .int .i64 (Nib.fin p.t k)]] (.int .i64 (Nib.lst p.t k)) := by
  intro ww
  have := tLast_any (Nib.beg p.t k) (Nib.fin p.t k) ww qo
  refine this.mono ?_
  rintro e w' ⟨rfl, hw⟩
  refine ⟨ret_int ?_, hw⟩
  unfold Nib.lst
  split <;> omega
 have H := h
 have HS : Hid (∀ ww, RdAt ww r d p → RdAt (ww.setCell ⟨d, 1, none⟩ (.int .i64 (Nib.clm p.t k : Nat))) r d { p with pl := Nib.clm p.t k }) := fun ww hh => hh.set_pl _
 have hcl : Nib.clm p.t k = if Nib.lst p.t k < k then Nib.lst p.t k else k := rfl
 obtain ⟨c0, c1, c2, c3, c4, c5, c6, c7, c8, c9, fz, lt⟩ := h.dk
 clear c2 c3 c4 c5 c6 c7 c8 c9 h
 generalize Nib.beg p.t k = B at *
 generalize Nib.fin p.t k = F at *
 generalize Nib.lst p.t k = L at *
 generalize hp2 : ({ p with pl := Nib.clm p.t k } : Pg) = p2 at *
 clear hp2
 generalize Nib.clm p.t k = C at *
 have HC : Hid (C = if L < k then L else k) := hcl
 clear hcl
 go_enter Tryz.func179, Tryz.ntmps179
 go_wp2_with fail
 refine (HL.out _).mono ?_
 rintro e w1 ⟨rfl, h1⟩
 obtain ⟨hc1, hf1, hz1⟩ := qb h1
 try simp at hz1
 go_wp2_with fail
 refine (HT.out _).mono ?_
 rintro e w2 ⟨rfl, h2⟩
 obtain ⟨hc2, hf2, hz2⟩ := qb h2
 try simp at hz2
 have H2 := (H.below h1).below h2
 have d0 := H2.dk.c0
 have d1 := H2.dk.c1
 have dz := H2.dk.fz
 have dl := H2.dk.lt
 have HS2 := HS.out _ H2
 clear hc1 hc2 hf1 hf2 H2 c0 c1 fz
 by_cases hlk : L < k
 ·rw [HC.out, if_pos hlk] at HS2
  exact qt85
 ·rw [HC.out, if_neg hlk] at HS2
  exact qt85
theorem tOf_any (s : ByteArray) (a b : Int) (i j : Nat) (w : World) (hs : s.size ≤ 1000) (ea : a = i) (eb : b = j) (h : i ≤ j) (hj : j ≤ s.size) :
  qC 87 #[.string s, .agg #[.int .i64 (a), .int .i64 (b)]] w (.string (s.extract i j)) := by
 subst ea eb
 go_enter Tryz.func87, Tryz.ntmps87
 go_wp2
 refine bodyPost_ret (v := .string (s.extract i j)) (by simp [results, Tryz.results87, go_sem]) rfl ⟨rfl, ?_⟩
 repeat (with_reducible first | exact Below.refl _ _ | refine b_s ?_ _ | refine b_a ?_ _ | refine Below.drew ?_ | refine below_drewN ?_ _)
theorem tWith_any (s t : ByteArray) (a b : Int) (i j : Nat) (w : World) (hs : s.size ≤ 1000) (ht : t.size ≤ 1000000) (ea : a = i) (eb : b = j) (h : i ≤ j) (hj : j ≤ s.size) :
  qC 192 #[.string s, .agg #[.int .i64 (a), .int .i64 (b)], .string t] w (.string (s.extract 0 i ++ t ++ s.extract j s.size)) := by
 subst ea eb
 have f1 : (0 : Int) ≤ i := by omega
 have f2 : (0 : Int) ≤ j := by omega
 have f3 : (i : Int) ≤ s.size := by omega
 have f4 : (j : Int) ≤ s.size := by omega
 have f5 : ¬ 9223372036854775807 < min i s.size + t.size := by omega
 have f6 : ¬ 9223372036854775807 < min i s.size + t.size + (s.size - j) := by omega
 go_enter Tryz.func192, Tryz.ntmps192
 go_wp2
 go_region_held3 (fun ww => ww.cell? ⟨w.heap.size, 0, none⟩ = some (.int .i64 i) ∧ ww.cell? ⟨w.heap.size, 1, none⟩ = some (.int .i64 j)) ((refine ⟨?_, ?_⟩ <;> go_simp)) (fail)
 go_wp2
 refine bodyPost_ret (v := .string (s.extract 0 i ++ t ++ s.extract j s.size)) (by simp [results, Tryz.results192, go_sem]) rfl ⟨rfl, ?_⟩
 repeat (with_reducible first | exact Below.refl _ _ | refine b_s ?_ _ | refine b_a ?_ _ | refine Below.drew ?_ | refine below_drewN ?_ _)
theorem tNothing_any (a b : Int) (l : Bool) (w : World) :
  qC 172 #[.agg #[.int .i64 a, .int .i64 b, .bool l]] w (.bool (a == b && !l)) := by
 go_enter Tryz.func172, Tryz.ntmps172
 go_wp2_with fail
 refine (tIsEmpty_any a b _).mono ?_
 rintro e w1 ⟨rfl, h1⟩
 obtain ⟨hc1, hf1, hz1⟩ := qb h1
 try simp at hz1
 go_wp2
 ·refine bodyPost_ret (v := .bool (!l)) (by simp [results, Tryz.results172, go_sem]) rfl ⟨by rename_i hh; simp [hh], ?_⟩
  repeat (with_reducible first | exact Below.refl _ _ | refine b_s ?_ _ | refine b_a ?_ _ | refine Below.drew ?_ | refine below_drewN ?_ _ | refine b_t ?_ h1)
 ·refine bodyPost_ret (v := .bool false) (by simp [results, Tryz.results172, go_sem]) rfl ⟨by rename_i hh; simp [hh], ?_⟩
  repeat (with_reducible first | exact Below.refl _ _ | refine b_s ?_ _ | refine b_a ?_ _ | refine Below.drew ?_ | refine below_drewN ?_ _ | refine b_t ?_ h1)
theorem tLines_any (s : ByteArray) (p q : Int) (k m : Nat) (w : World) (hs : s.size ≤ 1000) (ep : p = k) (eq : q = m) (hk : k ≤ s.size) (hm : m ≤ s.size) :
  qC 182 #[.string s, .int .i64 p, .int .i64 q] w (.agg #[.int .i64 (min (Nib.beg s k) (Nib.beg s m)), .int .i64 (max (Nib.fin s k) (Nib.fin s m)), .bool true]) := by
 generalize hV : min (Nib.beg s k : Int) (Nib.beg s m) = V
 generalize hU : max (Nib.fin s k : Int) (Nib.fin s m) = U
 have H1 := fun ww => tLine_any s p k ww hs ep hk
 have H2 := fun ww => tLine_any s q m ww hs eq hm
 have H3 := fun ww => tJoin_any (Nib.beg s k) (Nib.fin s k) (Nib.beg s m) (Nib.fin s m) ww
 rw [hV, hU] at H3
 generalize (Nib.beg s k : Int) = A at *
 generalize (Nib.fin s k : Int) = B at *
 generalize (Nib.beg s m : Int) = C at *
 generalize (Nib.fin s m : Int) = D at *
 have G1 : qH 195 #[.string s, .int .i64 p] (.agg #[.int .i64 (A), .int .i64 (B)]) := H1
 have G2 : qH 195 #[.string s, .int .i64 q] (.agg #[.int .i64 (C), .int .i64 (D)]) := H2
 have G3 : qH 196 #[.agg #[.int .i64 (A), .int .i64 (B)], .agg #[.int .i64 (C), .int .i64 (D)]] (.agg #[.int .i64 (V), .int .i64 (U)]) := H3
 clear H1 H2 H3 hV hU ep eq hk hm hs
 go_enter Tryz.func182, Tryz.ntmps182
 go_wp2_with fail
 refine (G1.out _).mono ?_
 rintro e w1 ⟨rfl, h1⟩
 obtain ⟨hc1, hf1, hz1⟩ := qb h1
 try simp at hz1
 go_wp2_with fail
 refine (G2.out _).mono ?_
 rintro e w2 ⟨rfl, h2⟩
 obtain ⟨hc2, hf2, hz2⟩ := qb h2
 try simp at hz2
 go_wp2_with fail
 refine (G3.out _).mono ?_
 rintro e w3 ⟨rfl, h3⟩
 obtain ⟨hc3, hf3, hz3⟩ := qb h3
 try simp at hz3
 have l1 : w.heap.size < w1.heap.size := by omega
 have l2 : w.heap.size < w2.heap.size := by omega
 have l3 : w.heap.size < w3.heap.size := by omega
 have z0 := fun o => (hf3 w.heap.size o l2).trans ((hf2 w.heap.size o l1).trans (hf1 w.heap.size o qi))
 simp at z0
 have c0 := fun o => (hc3 w.heap.size o l2).trans ((hc2 w.heap.size o l1).trans (hc1 w.heap.size o qi))
 have c1 := c0 0
 have c2 := c0 1
 have c3 := c0 2
 simp at c1 c2 c3
 clear hc1 hc2 hc3 hf1 hf2 hf3 c0
 go_wp2
 refine bodyPost_ret (v := .agg #[.int .i64 V, .int .i64 U, .bool true]) (by simp [results, Tryz.results182, go_sem, c1, c2, c3, z0, l3]) rfl ⟨rfl, ?_⟩
 repeat (with_reducible first | exact Below.refl _ _ | refine b_s ?_ _ | refine b_a ?_ _ | refine Below.drew ?_ | refine below_drewN ?_ _ | refine b_t ?_ h3 | refine b_t ?_ h2 | refine b_t ?_ h1)
end Go.Proofs.YtlendfhehhacpaaGreat
