/- A part. -/
import Derived.Test.YtlendfhehhacpaaGreatT03
import Derived.Laws.StructEq
set_option linter.unusedVariables false
set_option linter.unusedSimpArgs false
set_option maxRecDepth 100000
set_option maxHeartbeats 8000000
namespace Go.Proofs.YtlendfhehhacpaaGreat
open Go.RowKit Tryz
structure Two (w : World) (b : Nat) (x y : Int) : Prop where
 c0 : w.cell? ⟨b, 0, none⟩ = some (.int .i64 x)
 c1 : w.cell? ⟨b, 1, none⟩ = some (.int .i64 y)
 fz : ∀ o, w.frozen? ⟨b, o, none⟩ = false
 lt : b < w.heap.size
theorem Two.of_block {w w' : World} {b : Nat} {x y : Int} (h : Two w b x y) (hb : w'.heap[b]? = w.heap[b]?) (hz : w.heap.size ≤ w'.heap.size) : Two w' b x y := by
 have hc : ∀ o, w'.cell? ⟨b, o, none⟩ = w.cell? ⟨b, o, none⟩ := fun o => World.cell?_of_block (w := w) hb
 have hf : ∀ o, w'.frozen? ⟨b, o, none⟩ = w.frozen? ⟨b, o, none⟩ := fun o => World.frozen?_of_block (w := w) hb
 exact ⟨(hc _).trans h.c0, (hc _).trans h.c1, fun o => (hf o).trans (h.fz o), Nat.lt_of_lt_of_le h.lt hz⟩
theorem Two.below {w w' : World} {b : Nat} {x y : Int} (h : Two w b x y) (hb : Below w.heap.size w w') : Two w' b x y := h.of_block (hb.block b h.lt) hb.size
theorem Two.alloc {w : World} {b : Nat} {x y : Int} (h : Two w b x y) (o : Obj) : Two (w.alloc o) b x y := h.below ((Below.refl _ _).alloc (Nat.le_refl _) _)
theorem Two.drewN {w : World} {b : Nat} {x y : Int} (h : Two w b x y) (n : Nat) : Two (w.drewN n) b x y := h.below (below_drewN (Below.refl _ _) _)
theorem Two.drew {w : World} {b : Nat} {x y : Int} (h : Two w b x y) : Two w.drew b x y := h.below (Below.refl _ _).drew
theorem Two.other {w : World} {b : Nat} {x y : Int} (h : Two w b x y) {p : Addr} (hp : b ≠ p.block) (u : Value) : Two (w.setCell p u) b x y :=
 h.of_block (Below.heap_setCell _ _ _ _ hp) (by simp [World.setCell])
theorem frozen_set {w : World} {b o o' : Nat} {v : Value} : (w.setCell ⟨b, o, none⟩ v).frozen? ⟨b, o', none⟩ = w.frozen? ⟨b, o', none⟩ := World.frozen?_setCell w _ _ _
theorem Two.set0 {w : World} {b : Nat} {x y : Int} (h : Two w b x y) (z : Int) : Two (w.setCell ⟨b, 0, none⟩ (.int .i64 z)) b z y :=
 ⟨cell_set_same h.c0, (cell_set_off (by decide)).trans h.c1, fun o => (frozen_set).trans (h.fz o), by simp [World.setCell]; exact h.lt⟩
theorem Two.set1 {w : World} {b : Nat} {x y : Int} (h : Two w b x y) (z : Int) : Two (w.setCell ⟨b, 1, none⟩ (.int .i64 z)) b x z :=
 ⟨(cell_set_off (by decide)).trans h.c0, cell_set_same h.c1, fun o => (frozen_set).trans (h.fz o), by simp [World.setCell]; exact h.lt⟩
theorem Two.new (w : World) (x y : Int) (t : Nat) : Two (w.alloc (.cells #[.int .i64 x, .int .i64 y] t)) w.heap.size x y :=
 ⟨by simp, by simp, by simp, by simp⟩
theorem t_o {w : World} {b : Nat} {x y : Int} (h : Two w b x y) {p : Addr} (u : Value) (hp : b ≠ p.block := by first | omega | (simp <;> omega)) : Two (w.setCell p u) b x y := h.other hp u
theorem qN {w : World} {b : Nat} {x y : Int} {t : Nat} (h : b = w.heap.size := by simp) : Two (w.alloc (.cells #[.int .i64 x, .int .i64 y] t)) b x y := h ▸ Two.new w x y t
theorem qTw {w : World} {b : Nat} {x y : Int} (h : Two w b x y := by repeat (with_reducible first | assumption | refine t_o ?_ _ | refine Two.alloc ?_ _ | refine Two.drewN ?_ _ | refine Two.drew ?_ | refine Two.below ?_ (by with_reducible assumption))) : Two w b x y := h
theorem memLater {w w' : World} {b o : Nat} {v : Value} (h : Below w.heap.size w w') (hc : w.cell? ⟨b, o, none⟩ = some v) : w'.cell? ⟨b, o, none⟩ = some v := by
 have hb : b < w.heap.size := World.block_lt_of_cell? w ⟨b, o, none⟩ hc
 rw [h.cell (p := ⟨b, o, none⟩) hb]; exact hc
theorem memSet {w : World} {n b o o' : Nat} {v : Value} (h : n ≠ b) : (w.setCell ⟨n, o, none⟩ v).cell? ⟨b, o', none⟩ = w.cell? ⟨b, o', none⟩ :=
 World.cell?_setCell_other (w := w) (a := ⟨n, o, none⟩) (b := ⟨b, o', none⟩) (v := v) (fun e => h (by injection e))
theorem qM {P : Prop} (h : P := by repeat (first | with_reducible assumption | (with_reducible refine memLater ((Below.refl _ _).alloc (Nat.le_refl _) _) ?_) | (with_reducible refine memLater ((Below.refl _ _).drew) ?_) | (with_reducible refine memLater (by with_reducible assumption) ?_) | (with_reducible refine (memSet (by omega)).trans ?_) | (go_simp; done) | assumption)) : P := h
theorem qK {P : Prop} (h : P := by and_intros <;> first | (go_simp; done) | exact qM) : P := h
structure Five (w : World) (b : Nat) (s : ByteArray) (p n : Int) (v c : Bool) : Prop where
 c0 : w.cell? ⟨b, 0, none⟩ = some (.string s)
 c1 : w.cell? ⟨b, 1, none⟩ = some (.int .i64 p)
 c2 : w.cell? ⟨b, 2, none⟩ = some (.int .i64 n)
 c3 : w.cell? ⟨b, 3, none⟩ = some (.bool v)
 c4 : w.cell? ⟨b, 4, none⟩ = some (.bool c)
 fz : ∀ o, w.frozen? ⟨b, o, none⟩ = false
 lt : b < w.heap.size
theorem Five.of_block {w w' : World} {b : Nat} {s : ByteArray} {p n : Int} {v c : Bool} (h : Five w b s p n v c) (hb : w'.heap[b]? = w.heap[b]?) (hz : w.heap.size ≤ w'.heap.size) : Five w' b s p n v c := by
 have hc : ∀ o, w'.cell? ⟨b, o, none⟩ = w.cell? ⟨b, o, none⟩ := fun o => World.cell?_of_block (w := w) hb
 have hf : ∀ o, w'.frozen? ⟨b, o, none⟩ = w.frozen? ⟨b, o, none⟩ := fun o => World.frozen?_of_block (w := w) hb
 exact ⟨(hc _).trans h.c0, (hc _).trans h.c1, (hc _).trans h.c2, (hc _).trans h.c3, (hc _).trans h.c4, fun o => (hf o).trans (h.fz o), Nat.lt_of_lt_of_le h.lt hz⟩
theorem Five.below {w w' : World} {b : Nat} {s : ByteArray} {p n : Int} {v c : Bool} (h : Five w b s p n v c) (hb : Below w.heap.size w w') : Five w' b s p n v c := h.of_block (hb.block b h.lt) hb.size
theorem Five.alloc {w : World} {b : Nat} {s : ByteArray} {p n : Int} {v c : Bool} (h : Five w b s p n v c) (o : Obj) : Five (w.alloc o) b s p n v c := h.below ((Below.refl _ _).alloc (Nat.le_refl _) _)
theorem Five.drewN {w : World} {b : Nat} {s : ByteArray} {p n : Int} {v c : Bool} (h : Five w b s p n v c) (k : Nat) : Five (w.drewN k) b s p n v c := h.below (below_drewN (Below.refl _ _) _)
theorem Five.drew {w : World} {b : Nat} {s : ByteArray} {p n : Int} {v c : Bool} (h : Five w b s p n v c) : Five w.drew b s p n v c := h.below (Below.refl _ _).drew
theorem Five.other {w : World} {b : Nat} {s : ByteArray} {p n : Int} {v c : Bool} (h : Five w b s p n v c) {q : Addr} (hp : b ≠ q.block) (u : Value) : Five (w.setCell q u) b s p n v c :=
 h.of_block (Below.heap_setCell _ _ _ _ hp) (by simp [World.setCell])
theorem Five.new (w : World) (s : ByteArray) (p n : Int) (v c : Bool) (t : Nat) : Five (w.alloc (.cells #[.string s, .int .i64 p, .int .i64 n, .bool v, .bool c] t)) w.heap.size s p n v c :=
 ⟨by simp, by simp, by simp, by simp, by simp, by simp, by simp⟩
theorem f_o {w : World} {b : Nat} {s : ByteArray} {p n : Int} {v c : Bool} (h : Five w b s p n v c) {q : Addr} (u : Value) (hp : b ≠ q.block := by first | omega | (simp <;> omega)) : Five (w.setCell q u) b s p n v c := h.other hp u
theorem qF {w : World} {b : Nat} {s : ByteArray} {p n : Int} {v c : Bool} (h : Five w b s p n v c := by repeat (with_reducible first | assumption | refine f_o ?_ _ | refine Five.alloc ?_ _ | refine Five.drewN ?_ _ | refine Five.drew ?_ | refine Five.below ?_ (by with_reducible assumption))) : Five w b s p n v c := h
structure Pg where
 t : ByteArray
 pl : Nat
 anchor : Nat
 mode : Int
 regs : Value
 now : ByteArray
 back : Value
 forth : Value
 fnd : Int
 findC : Int
 reg : Int
 n : Nat
 verb : Int
 behind : Nat
 part : Int
structure DkAt (w : World) (d : Nat) (p : Pg) : Prop where
 c0 : w.cell? ⟨d, 0, none⟩ = some (.string p.t)
 c1 : w.cell? ⟨d, 1, none⟩ = some (.int .i64 (p.pl : Nat))
 c2 : w.cell? ⟨d, 2, none⟩ = some (.int .i64 (p.anchor : Nat))
 c3 : w.cell? ⟨d, 3, none⟩ = some (.int .i64 p.mode)
 c4 : w.cell? ⟨d, 4, none⟩ = some (p.regs)
 c5 : w.cell? ⟨d, 5, none⟩ = some (.string p.now)
 c6 : w.cell? ⟨d, 6, none⟩ = some (p.back)
 c7 : w.cell? ⟨d, 7, none⟩ = some (p.forth)
 c8 : w.cell? ⟨d, 8, none⟩ = some (.int .u8 p.fnd)
 c9 : w.cell? ⟨d, 9, none⟩ = some (.int .u8 p.findC)
 fz : ∀ o, w.frozen? ⟨d, o, none⟩ = false
 lt : d < w.heap.size
structure BgAt (w : World) (r d : Nat) (p : Pg) : Prop where
 c0 : w.cell? ⟨r, 0, none⟩ = some (.pointer (some ⟨d, 0, none⟩))
 c1 : w.cell? ⟨r, 1, none⟩ = some (.int .u8 p.reg)
 c2 : w.cell? ⟨r, 2, none⟩ = some (.int .i64 (p.n : Nat))
 c3 : w.cell? ⟨r, 3, none⟩ = some (.int .u8 p.verb)
 c4 : w.cell? ⟨r, 4, none⟩ = some (.int .i64 (p.behind : Nat))
 c5 : w.cell? ⟨r, 5, none⟩ = some (.int .u8 p.part)
 fz : ∀ o, w.frozen? ⟨r, o, none⟩ = false
 lt : r < w.heap.size
structure RdAt (w : World) (r d : Nat) (p : Pg) : Prop where
 dk : DkAt w d p
 bg : BgAt w r d p
 ne : r ≠ d
theorem DkAt.of_block {w w' : World} {d : Nat} {p : Pg} (h : DkAt w d p) (hb : w'.heap[d]? = w.heap[d]?) (hz : w.heap.size ≤ w'.heap.size) : DkAt w' d p := by
 have hc : ∀ o, w'.cell? ⟨d, o, none⟩ = w.cell? ⟨d, o, none⟩ := fun o => World.cell?_of_block (w := w) hb
 have hf : ∀ o, w'.frozen? ⟨d, o, none⟩ = w.frozen? ⟨d, o, none⟩ := fun o => World.frozen?_of_block (w := w) hb
 exact ⟨(hc _).trans h.c0, (hc _).trans h.c1, (hc _).trans h.c2, (hc _).trans h.c3, (hc _).trans h.c4, (hc _).trans h.c5, (hc _).trans h.c6, (hc _).trans h.c7, (hc _).trans h.c8, (hc _).trans h.c9, fun o => (hf o).trans (h.fz o), Nat.lt_of_lt_of_le h.lt hz⟩
theorem DkAt.other {w : World} {d : Nat} {p : Pg} (h : DkAt w d p) {q : Addr} (hp : d ≠ q.block) (u : Value) : DkAt (w.setCell q u) d p := h.of_block (Below.heap_setCell _ _ _ _ hp) (by simp [World.setCell])
theorem BgAt.of_block {w w' : World} {r d : Nat} {p : Pg} (h : BgAt w r d p) (hb : w'.heap[r]? = w.heap[r]?) (hz : w.heap.size ≤ w'.heap.size) : BgAt w' r d p := by
 have hc : ∀ o, w'.cell? ⟨r, o, none⟩ = w.cell? ⟨r, o, none⟩ := fun o => World.cell?_of_block (w := w) hb
 have hf : ∀ o, w'.frozen? ⟨r, o, none⟩ = w.frozen? ⟨r, o, none⟩ := fun o => World.frozen?_of_block (w := w) hb
 exact ⟨(hc _).trans h.c0, (hc _).trans h.c1, (hc _).trans h.c2, (hc _).trans h.c3, (hc _).trans h.c4, (hc _).trans h.c5, fun o => (hf o).trans (h.fz o), Nat.lt_of_lt_of_le h.lt hz⟩
theorem BgAt.other {w : World} {r d : Nat} {p : Pg} (h : BgAt w r d p) {q : Addr} (hp : r ≠ q.block) (u : Value) : BgAt (w.setCell q u) r d p := h.of_block (Below.heap_setCell _ _ _ _ hp) (by simp [World.setCell])
theorem RdAt.of_block {w w' : World} {r d : Nat} {p : Pg} (h : RdAt w r d p) (hr : w'.heap[r]? = w.heap[r]?) (hd : w'.heap[d]? = w.heap[d]?) (hz : w.heap.size ≤ w'.heap.size) : RdAt w' r d p := ⟨h.dk.of_block hd hz, h.bg.of_block hr hz, h.ne⟩
theorem RdAt.below {w w' : World} {r d : Nat} {p : Pg} (h : RdAt w r d p) (hb : Below w.heap.size w w') : RdAt w' r d p := h.of_block (hb.block r h.bg.lt) (hb.block d h.dk.lt) hb.size
theorem RdAt.alloc {w : World} {r d : Nat} {p : Pg} (h : RdAt w r d p) (o : Obj) : RdAt (w.alloc o) r d p := h.below ((Below.refl _ _).alloc (Nat.le_refl _) _)
theorem RdAt.drewN {w : World} {r d : Nat} {p : Pg} (h : RdAt w r d p) (n : Nat) : RdAt (w.drewN n) r d p := h.below (below_drewN (Below.refl _ _) _)
theorem RdAt.drew {w : World} {r d : Nat} {p : Pg} (h : RdAt w r d p) : RdAt w.drew r d p := h.below (Below.refl _ _).drew
theorem RdAt.upd {S : List Nat} {w w' : World} {r d : Nat} {p : Pg} (h : RdAt w r d p) (hu : Upd S w w') (hr : r ∉ S) (hd : d ∉ S) : RdAt w' r d p := h.of_block (hu.block r h.bg.lt hr) (hu.block d h.dk.lt hd) hu.size
theorem RdAt.other {w : World} {r d : Nat} {p : Pg} (h : RdAt w r d p) {q : Addr} (hr : r ≠ q.block) (hd : d ≠ q.block) (u : Value) : RdAt (w.setCell q u) r d p := ⟨h.dk.other hd u, h.bg.other hr u, h.ne⟩
theorem DkAt.beg {w : World} {d : Nat} {p : Pg} (h : DkAt w d p) (a : Int) (b : Nat) (c : Int) (e : Nat) (g : Int) : DkAt w d { p with reg := a, n := b, verb := c, behind := e, part := g } := ⟨h.c0, h.c1, h.c2, h.c3, h.c4, h.c5, h.c6, h.c7, h.c8, h.c9, h.fz, h.lt⟩
theorem DkAt.set_t {w : World} {d : Nat} {p : Pg} (h : DkAt w d p) (x : ByteArray) : DkAt (w.setCell ⟨d, 0, none⟩ (.string x)) d { p with t := x } :=
 ⟨cell_set_same h.c0, (cell_set_off qd).trans h.c1, (cell_set_off qd).trans h.c2, (cell_set_off qd).trans h.c3, (cell_set_off qd).trans h.c4, (cell_set_off qd).trans h.c5, (cell_set_off qd).trans h.c6, (cell_set_off qd).trans h.c7, (cell_set_off qd).trans h.c8, (cell_set_off qd).trans h.c9, fun o => frozen_set.trans (h.fz o), by simp [World.setCell]; exact h.lt⟩
theorem RdAt.set_t {w : World} {r d : Nat} {p : Pg} (h : RdAt w r d p) (x : ByteArray) : RdAt (w.setCell ⟨d, 0, none⟩ (.string x)) r d { p with t := x } :=
 ⟨h.dk.set_t x, by have b := h.bg.other (q := ⟨d, 0, none⟩) h.ne (.string x); exact ⟨b.c0, b.c1, b.c2, b.c3, b.c4, b.c5, b.fz, b.lt⟩, h.ne⟩
theorem DkAt.set_pl {w : World} {d : Nat} {p : Pg} (h : DkAt w d p) (x : Nat) : DkAt (w.setCell ⟨d, 1, none⟩ (.int .i64 (x : Nat))) d { p with pl := x } :=
 ⟨(cell_set_off qd).trans h.c0, cell_set_same h.c1, (cell_set_off qd).trans h.c2, (cell_set_off qd).trans h.c3, (cell_set_off qd).trans h.c4, (cell_set_off qd).trans h.c5, (cell_set_off qd).trans h.c6, (cell_set_off qd).trans h.c7, (cell_set_off qd).trans h.c8, (cell_set_off qd).trans h.c9, fun o => frozen_set.trans (h.fz o), by simp [World.setCell]; exact h.lt⟩
theorem RdAt.set_pl {w : World} {r d : Nat} {p : Pg} (h : RdAt w r d p) (x : Nat) : RdAt (w.setCell ⟨d, 1, none⟩ (.int .i64 (x : Nat))) r d { p with pl := x } :=
 ⟨h.dk.set_pl x, by have b := h.bg.other (q := ⟨d, 1, none⟩) h.ne (.int .i64 (x : Nat)); exact ⟨b.c0, b.c1, b.c2, b.c3, b.c4, b.c5, b.fz, b.lt⟩, h.ne⟩
theorem DkAt.set_anchor {w : World} {d : Nat} {p : Pg} (h : DkAt w d p) (x : Nat) : DkAt (w.setCell ⟨d, 2, none⟩ (.int .i64 (x : Nat))) d { p with anchor := x } :=
 ⟨(cell_set_off qd).trans h.c0, (cell_set_off qd).trans h.c1, cell_set_same h.c2, (cell_set_off qd).trans h.c3, (cell_set_off qd).trans h.c4, (cell_set_off qd).trans h.c5, (cell_set_off qd).trans h.c6, (cell_set_off qd).trans h.c7, (cell_set_off qd).trans h.c8, (cell_set_off qd).trans h.c9, fun o => frozen_set.trans (h.fz o), by simp [World.setCell]; exact h.lt⟩
theorem RdAt.set_anchor {w : World} {r d : Nat} {p : Pg} (h : RdAt w r d p) (x : Nat) : RdAt (w.setCell ⟨d, 2, none⟩ (.int .i64 (x : Nat))) r d { p with anchor := x } :=
 ⟨h.dk.set_anchor x, by have b := h.bg.other (q := ⟨d, 2, none⟩) h.ne (.int .i64 (x : Nat)); exact ⟨b.c0, b.c1, b.c2, b.c3, b.c4, b.c5, b.fz, b.lt⟩, h.ne⟩
theorem DkAt.set_mode {w : World} {d : Nat} {p : Pg} (h : DkAt w d p) (x : Int) : DkAt (w.setCell ⟨d, 3, none⟩ (.int .i64 x)) d { p with mode := x } :=
 ⟨(cell_set_off qd).trans h.c0, (cell_set_off qd).trans h.c1, (cell_set_off qd).trans h.c2, cell_set_same h.c3, (cell_set_off qd).trans h.c4, (cell_set_off qd).trans h.c5, (cell_set_off qd).trans h.c6, (cell_set_off qd).trans h.c7, (cell_set_off qd).trans h.c8, (cell_set_off qd).trans h.c9, fun o => frozen_set.trans (h.fz o), by simp [World.setCell]; exact h.lt⟩
theorem RdAt.set_mode {w : World} {r d : Nat} {p : Pg} (h : RdAt w r d p) (x : Int) : RdAt (w.setCell ⟨d, 3, none⟩ (.int .i64 x)) r d { p with mode := x } :=
 ⟨h.dk.set_mode x, by have b := h.bg.other (q := ⟨d, 3, none⟩) h.ne (.int .i64 x); exact ⟨b.c0, b.c1, b.c2, b.c3, b.c4, b.c5, b.fz, b.lt⟩, h.ne⟩
theorem DkAt.set_now {w : World} {d : Nat} {p : Pg} (h : DkAt w d p) (x : ByteArray) : DkAt (w.setCell ⟨d, 5, none⟩ (.string x)) d { p with now := x } :=
 ⟨(cell_set_off qd).trans h.c0, (cell_set_off qd).trans h.c1, (cell_set_off qd).trans h.c2, (cell_set_off qd).trans h.c3, (cell_set_off qd).trans h.c4, cell_set_same h.c5, (cell_set_off qd).trans h.c6, (cell_set_off qd).trans h.c7, (cell_set_off qd).trans h.c8, (cell_set_off qd).trans h.c9, fun o => frozen_set.trans (h.fz o), by simp [World.setCell]; exact h.lt⟩
theorem RdAt.set_now {w : World} {r d : Nat} {p : Pg} (h : RdAt w r d p) (x : ByteArray) : RdAt (w.setCell ⟨d, 5, none⟩ (.string x)) r d { p with now := x } :=
 ⟨h.dk.set_now x, by have b := h.bg.other (q := ⟨d, 5, none⟩) h.ne (.string x); exact ⟨b.c0, b.c1, b.c2, b.c3, b.c4, b.c5, b.fz, b.lt⟩, h.ne⟩
theorem DkAt.set_back {w : World} {d : Nat} {p : Pg} (h : DkAt w d p) (x : Value) : DkAt (w.setCell ⟨d, 6, none⟩ (x)) d { p with back := x } :=
 ⟨(cell_set_off qd).trans h.c0, (cell_set_off qd).trans h.c1, (cell_set_off qd).trans h.c2, (cell_set_off qd).trans h.c3, (cell_set_off qd).trans h.c4, (cell_set_off qd).trans h.c5, cell_set_same h.c6, (cell_set_off qd).trans h.c7, (cell_set_off qd).trans h.c8, (cell_set_off qd).trans h.c9, fun o => frozen_set.trans (h.fz o), by simp [World.setCell]; exact h.lt⟩
theorem RdAt.set_back {w : World} {r d : Nat} {p : Pg} (h : RdAt w r d p) (x : Value) : RdAt (w.setCell ⟨d, 6, none⟩ (x)) r d { p with back := x } :=
 ⟨h.dk.set_back x, by have b := h.bg.other (q := ⟨d, 6, none⟩) h.ne (x); exact ⟨b.c0, b.c1, b.c2, b.c3, b.c4, b.c5, b.fz, b.lt⟩, h.ne⟩
theorem DkAt.set_forth {w : World} {d : Nat} {p : Pg} (h : DkAt w d p) (x : Value) : DkAt (w.setCell ⟨d, 7, none⟩ (x)) d { p with forth := x } :=
 ⟨(cell_set_off qd).trans h.c0, (cell_set_off qd).trans h.c1, (cell_set_off qd).trans h.c2, (cell_set_off qd).trans h.c3, (cell_set_off qd).trans h.c4, (cell_set_off qd).trans h.c5, (cell_set_off qd).trans h.c6, cell_set_same h.c7, (cell_set_off qd).trans h.c8, (cell_set_off qd).trans h.c9, fun o => frozen_set.trans (h.fz o), by simp [World.setCell]; exact h.lt⟩
theorem RdAt.set_forth {w : World} {r d : Nat} {p : Pg} (h : RdAt w r d p) (x : Value) : RdAt (w.setCell ⟨d, 7, none⟩ (x)) r d { p with forth := x } :=
 ⟨h.dk.set_forth x, by have b := h.bg.other (q := ⟨d, 7, none⟩) h.ne (x); exact ⟨b.c0, b.c1, b.c2, b.c3, b.c4, b.c5, b.fz, b.lt⟩, h.ne⟩
theorem DkAt.set_fnd {w : World} {d : Nat} {p : Pg} (h : DkAt w d p) (x : Int) : DkAt (w.setCell ⟨d, 8, none⟩ (.int .u8 x)) d { p with fnd := x } :=
 ⟨(cell_set_off qd).trans h.c0, (cell_set_off qd).trans h.c1, (cell_set_off qd).trans h.c2, (cell_set_off qd).trans h.c3, (cell_set_off qd).trans h.c4, (cell_set_off qd).trans h.c5, (cell_set_off qd).trans h.c6, (cell_set_off qd).trans h.c7, cell_set_same h.c8, (cell_set_off qd).trans h.c9, fun o => frozen_set.trans (h.fz o), by simp [World.setCell]; exact h.lt⟩
theorem RdAt.set_fnd {w : World} {r d : Nat} {p : Pg} (h : RdAt w r d p) (x : Int) : RdAt (w.setCell ⟨d, 8, none⟩ (.int .u8 x)) r d { p with fnd := x } :=
 ⟨h.dk.set_fnd x, by have b := h.bg.other (q := ⟨d, 8, none⟩) h.ne (.int .u8 x); exact ⟨b.c0, b.c1, b.c2, b.c3, b.c4, b.c5, b.fz, b.lt⟩, h.ne⟩
theorem DkAt.set_findC {w : World} {d : Nat} {p : Pg} (h : DkAt w d p) (x : Int) : DkAt (w.setCell ⟨d, 9, none⟩ (.int .u8 x)) d { p with findC := x } :=
 ⟨(cell_set_off qd).trans h.c0, (cell_set_off qd).trans h.c1, (cell_set_off qd).trans h.c2, (cell_set_off qd).trans h.c3, (cell_set_off qd).trans h.c4, (cell_set_off qd).trans h.c5, (cell_set_off qd).trans h.c6, (cell_set_off qd).trans h.c7, (cell_set_off qd).trans h.c8, cell_set_same h.c9, fun o => frozen_set.trans (h.fz o), by simp [World.setCell]; exact h.lt⟩
theorem RdAt.set_findC {w : World} {r d : Nat} {p : Pg} (h : RdAt w r d p) (x : Int) : RdAt (w.setCell ⟨d, 9, none⟩ (.int .u8 x)) r d { p with findC := x } :=
 ⟨h.dk.set_findC x, by have b := h.bg.other (q := ⟨d, 9, none⟩) h.ne (.int .u8 x); exact ⟨b.c0, b.c1, b.c2, b.c3, b.c4, b.c5, b.fz, b.lt⟩, h.ne⟩
theorem BgAt.set_reg {w : World} {r d : Nat} {p : Pg} (h : BgAt w r d p) (x : Int) : BgAt (w.setCell ⟨r, 1, none⟩ (.int .u8 x)) r d { p with reg := x } :=
 ⟨(cell_set_off qd).trans h.c0, cell_set_same h.c1, (cell_set_off qd).trans h.c2, (cell_set_off qd).trans h.c3, (cell_set_off qd).trans h.c4, (cell_set_off qd).trans h.c5, fun o => frozen_set.trans (h.fz o), by simp [World.setCell]; exact h.lt⟩
theorem RdAt.set_reg {w : World} {r d : Nat} {p : Pg} (h : RdAt w r d p) (x : Int) : RdAt (w.setCell ⟨r, 1, none⟩ (.int .u8 x)) r d { p with reg := x } :=
 ⟨by have b := h.dk.other (q := ⟨r, 1, none⟩) (Ne.symm h.ne) (.int .u8 x); exact ⟨b.c0, b.c1, b.c2, b.c3, b.c4, b.c5, b.c6, b.c7, b.c8, b.c9, b.fz, b.lt⟩, h.bg.set_reg x, h.ne⟩
theorem BgAt.set_n {w : World} {r d : Nat} {p : Pg} (h : BgAt w r d p) (x : Nat) : BgAt (w.setCell ⟨r, 2, none⟩ (.int .i64 (x : Nat))) r d { p with n := x } :=
 ⟨(cell_set_off qd).trans h.c0, (cell_set_off qd).trans h.c1, cell_set_same h.c2, (cell_set_off qd).trans h.c3, (cell_set_off qd).trans h.c4, (cell_set_off qd).trans h.c5, fun o => frozen_set.trans (h.fz o), by simp [World.setCell]; exact h.lt⟩
theorem RdAt.set_n {w : World} {r d : Nat} {p : Pg} (h : RdAt w r d p) (x : Nat) : RdAt (w.setCell ⟨r, 2, none⟩ (.int .i64 (x : Nat))) r d { p with n := x } :=
 ⟨by have b := h.dk.other (q := ⟨r, 2, none⟩) (Ne.symm h.ne) (.int .i64 (x : Nat)); exact ⟨b.c0, b.c1, b.c2, b.c3, b.c4, b.c5, b.c6, b.c7, b.c8, b.c9, b.fz, b.lt⟩, h.bg.set_n x, h.ne⟩
theorem BgAt.set_verb {w : World} {r d : Nat} {p : Pg} (h : BgAt w r d p) (x : Int) : BgAt (w.setCell ⟨r, 3, none⟩ (.int .u8 x)) r d { p with verb := x } :=
 ⟨(cell_set_off qd).trans h.c0, (cell_set_off qd).trans h.c1, (cell_set_off qd).trans h.c2, cell_set_same h.c3, (cell_set_off qd).trans h.c4, (cell_set_off qd).trans h.c5, fun o => frozen_set.trans (h.fz o), by simp [World.setCell]; exact h.lt⟩
theorem RdAt.set_verb {w : World} {r d : Nat} {p : Pg} (h : RdAt w r d p) (x : Int) : RdAt (w.setCell ⟨r, 3, none⟩ (.int .u8 x)) r d { p with verb := x } :=
 ⟨by have b := h.dk.other (q := ⟨r, 3, none⟩) (Ne.symm h.ne) (.int .u8 x); exact ⟨b.c0, b.c1, b.c2, b.c3, b.c4, b.c5, b.c6, b.c7, b.c8, b.c9, b.fz, b.lt⟩, h.bg.set_verb x, h.ne⟩
theorem BgAt.set_behind {w : World} {r d : Nat} {p : Pg} (h : BgAt w r d p) (x : Nat) : BgAt (w.setCell ⟨r, 4, none⟩ (.int .i64 (x : Nat))) r d { p with behind := x } :=
 ⟨(cell_set_off qd).trans h.c0, (cell_set_off qd).trans h.c1, (cell_set_off qd).trans h.c2, (cell_set_off qd).trans h.c3, cell_set_same h.c4, (cell_set_off qd).trans h.c5, fun o => frozen_set.trans (h.fz o), by simp [World.setCell]; exact h.lt⟩
theorem RdAt.set_behind {w : World} {r d : Nat} {p : Pg} (h : RdAt w r d p) (x : Nat) : RdAt (w.setCell ⟨r, 4, none⟩ (.int .i64 (x : Nat))) r d { p with behind := x } :=
 ⟨by have b := h.dk.other (q := ⟨r, 4, none⟩) (Ne.symm h.ne) (.int .i64 (x : Nat)); exact ⟨b.c0, b.c1, b.c2, b.c3, b.c4, b.c5, b.c6, b.c7, b.c8, b.c9, b.fz, b.lt⟩, h.bg.set_behind x, h.ne⟩
theorem BgAt.set_part {w : World} {r d : Nat} {p : Pg} (h : BgAt w r d p) (x : Int) : BgAt (w.setCell ⟨r, 5, none⟩ (.int .u8 x)) r d { p with part := x } :=
 ⟨(cell_set_off qd).trans h.c0, (cell_set_off qd).trans h.c1, (cell_set_off qd).trans h.c2, (cell_set_off qd).trans h.c3, (cell_set_off qd).trans h.c4, cell_set_same h.c5, fun o => frozen_set.trans (h.fz o), by simp [World.setCell]; exact h.lt⟩
theorem RdAt.set_part {w : World} {r d : Nat} {p : Pg} (h : RdAt w r d p) (x : Int) : RdAt (w.setCell ⟨r, 5, none⟩ (.int .u8 x)) r d { p with part := x } :=
 ⟨by have b := h.dk.other (q := ⟨r, 5, none⟩) (Ne.symm h.ne) (.int .u8 x); exact ⟨b.c0, b.c1, b.c2, b.c3, b.c4, b.c5, b.c6, b.c7, b.c8, b.c9, b.fz, b.lt⟩, h.bg.set_part x, h.ne⟩
theorem r_o {w : World} {r d : Nat} {p : Pg} (h : RdAt w r d p) {q : Addr} (u : Value) (hr : r ≠ q.block := by first | omega | (simp <;> omega)) (hd : d ≠ q.block := by first | omega | (simp <;> omega)) : RdAt (w.setCell q u) r d p := h.other hr hd u
theorem qRd {w : World} {r d : Nat} {p : Pg} (h : RdAt w r d p := by repeat (with_reducible first | assumption | refine r_o ?_ _ | refine RdAt.alloc ?_ _ | refine RdAt.drewN ?_ _ | refine RdAt.drew ?_ | refine RdAt.below ?_ (by with_reducible assumption))) : RdAt w r d p := h
theorem eqIn_int (d : Nat) (a b : Int) (w : World) : (Op.equalIn (d + 1) 3 (.int .i64 a) (.int .i64 b)).run Tryz.prog w = .ok (a == b) w := by
 simp [Op.equalIn, run_underlying underlying3]
theorem eq_two_in (k : Nat) (a b c d : Int) (w : World) : (Op.equalIn (k + 2) 128 (.agg #[.int .i64 (a), .int .i64 (b)]) (.agg #[.int .i64 (c), .int .i64 (d)])).run Tryz.prog w = .ok ((a == c) && (b == d)) w := by
 have h := fun x y w => eqIn_int k x y w
 rw [show k + 2 = (k + 1) + 1 by omega]
 rw [Op.equalIn]
 simp only [Sem.run_bind, run_underlying underlying128, Result.andThen_ok]
 simp [go_sem, part, h, Std.Legacy.Range.forIn_eq_forIn_range', List.range']
 by_cases h1 : a = c <;> by_cases h2 : b = d <;> simp [h1, h2]
theorem eq_two (a b c d : Int) (w : World) : (Op.equal 128 (.agg #[.int .i64 (a), .int .i64 (b)]) (.agg #[.int .i64 (c), .int .i64 (d)])).run Tryz.prog w = .ok ((a == c) && (b == d)) w := eq_two_in 9998 a b c d w
theorem neq_two (a b c d : Int) (w : World) : (binOp .neq 128 (.agg #[.int .i64 (a), .int .i64 (b)]) (.agg #[.int .i64 (c), .int .i64 (d)])).run Tryz.prog w = .ok (.bool (!((a == c) && (b == d)))) w := by
 have e : binOp .neq 128 (.agg #[.int .i64 (a), .int .i64 (b)]) (.agg #[.int .i64 (c), .int .i64 (d)]) = (do pure (.bool (!(← Op.equal 128 (.agg #[.int .i64 (a), .int .i64 (b)]) (.agg #[.int .i64 (c), .int .i64 (d)]))))) := rfl
 rw [e, Sem.run_bind, eq_two]
 rfl
theorem eql_two (a b c d : Int) (w : World) : (binOp .eql 128 (.agg #[.int .i64 (a), .int .i64 (b)]) (.agg #[.int .i64 (c), .int .i64 (d)])).run Tryz.prog w = .ok (.bool ((a == c) && (b == d))) w := by
 have e : binOp .eql 128 (.agg #[.int .i64 (a), .int .i64 (b)]) (.agg #[.int .i64 (c), .int .i64 (d)]) = (do pure (.bool (← Op.equal 128 (.agg #[.int .i64 (a), .int .i64 (b)]) (.agg #[.int .i64 (c), .int .i64 (d)])))) := rfl
 rw [e, Sem.run_bind, eq_two]
 rfl
