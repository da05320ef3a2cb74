/- Joined of the texts Base, MemA, MemB, MemC, MemD. -/
import Derived.Test.YtlendfhehhacpaaGreatProg
import Derived.WalkKit
import Derived.WalkSpells
import Derived.WalkLawsBesides
import Derived.Deep.RegionHeld3
set_option linter.unusedVariables false
set_option linter.unusedSimpArgs false
set_option maxRecDepth 100000
set_option maxHeartbeats 8000000
namespace Go.Proofs.YtlendfhehhacpaaGreat
open Go.RowKit
theorem bcell {W w1 : World} (hb : Below W.heap.size W w1) : (∀ b o, b < W.heap.size → w1.cell? ⟨b, o, none⟩ = W.cell? ⟨b, o, none⟩) ∧ (∀ b o, b < W.heap.size → w1.frozen? ⟨b, o, none⟩ = W.frozen? ⟨b, o, none⟩) :=
  ⟨fun b o h => hb.cell (p := ⟨b, o, none⟩) h, fun b o h => hb.frozen (p := ⟨b, o, none⟩) h⟩
theorem ret_int {k : IntKind} {a b : Int} (h : a = b) : Ending.returned (.int k a) = .returned (.int k b) := by rw [h]
theorem ret_bool {a b : Bool} (h : a = b) : Ending.returned (.bool a) = .returned (.bool b) := by rw [h]
structure Upd (S : List Nat) (w w' : World) : Prop where
  os : w'.os = w.os
  tape : w'.tape = w.tape
  output : w'.output = w.output
  size : w.heap.size ≤ w'.heap.size
  block : ∀ k, k < w.heap.size → k ∉ S → w'.heap[k]? = w.heap[k]?
theorem Upd.refl (S : List Nat) (w : World) : Upd S w w := ⟨rfl, rfl, rfl, Nat.le_refl _, fun _ _ _ => rfl⟩
theorem Upd.trans {S : List Nat} {a b c : World} (h : Upd S a b) (k : Upd S b c) : Upd S a c :=
  ⟨k.os.trans h.os, k.tape.trans h.tape, k.output.trans h.output, Nat.le_trans h.size k.size, fun i hi hn => (k.block i (Nat.lt_of_lt_of_le hi h.size) hn).trans (h.block i hi hn)⟩
theorem Upd.of_below {S : List Nat} {w w' : World} (h : Below w.heap.size w w') : Upd S w w' := ⟨h.os, h.tape, h.output, h.size, fun k hk _ => h.block k hk⟩
theorem Upd.below {S : List Nat} {a w w' : World} (h : Upd S a w) (hb : Below w.heap.size w w') : Upd S a w' := h.trans (Upd.of_below hb)
theorem Upd.alloc {S : List Nat} {a w : World} (h : Upd S a w) (o : Obj) : Upd S a (w.alloc o) := h.below ((Below.refl _ _).alloc (Nat.le_refl _) _)
theorem Upd.drewN {S : List Nat} {a w : World} (h : Upd S a w) (n : Nat) : Upd S a (w.drewN n) := h.below (below_drewN (Below.refl _ _) _)
theorem Upd.drew {S : List Nat} {a w : World} (h : Upd S a w) : Upd S a w.drew := h.below (Below.refl _ _).drew
theorem Upd.setCell {S : List Nat} {a w : World} (h : Upd S a w) {p : Addr} (hp : p.block ∈ S ∨ a.heap.size ≤ p.block) (u : Value) : Upd S a (w.setCell p u) :=
  ⟨h.os, h.tape, h.output, by have := h.size; simp [World.setCell]; exact this, fun k hk hn => by
    rw [Below.heap_setCell _ _ _ _ (by rcases hp with hp | hp
                                       · exact fun e => hn (e ▸ hp)
                                       · omega)]
    exact h.block k hk hn⟩
theorem Upd.mono {S T : List Nat} {a w : World} (h : Upd S a w) (hs : ∀ k, k ∈ S → k ∈ T) : Upd T a w :=
  ⟨h.os, h.tape, h.output, h.size, fun k hk hn => h.block k hk (fun e => hn (hs k e))⟩
theorem cell_set_same {w : World} {b o : Nat} {v u : Value} (h : w.cell? ⟨b, o, none⟩ = some u) : (w.setCell ⟨b, o, none⟩ v).cell? ⟨b, o, none⟩ = some v := World.cell?_setCell_same (w := w) (a := ⟨b, o, none⟩) (v := v) h
theorem cell_set_off {w : World} {b o o' : Nat} {v : Value} (h : o ≠ o') : (w.setCell ⟨b, o, none⟩ v).cell? ⟨b, o', none⟩ = w.cell? ⟨b, o', none⟩ :=
  World.cell?_setCell_other (w := w) (a := ⟨b, o, none⟩) (b := ⟨b, o', none⟩) (v := v) (fun e => h (by injection e))
theorem b_s {B : Nat} {a w : World} (h : Below B a w) {p : Addr} (u : Value) (hp : B ≤ p.block := by first | omega | (simp <;> omega)) : Below B a (w.setCell p u) := h.setCell hp u
theorem b_a {B : Nat} {a w : World} (h : Below B a w) (o : Obj) (hB : B ≤ w.heap.size := by first | omega | (simp <;> omega)) : Below B a (w.alloc o) := h.alloc hB o
theorem b_t {B C : Nat} {a v w : World} (h : Below B a v) (g : Below C v w) (hB : B ≤ C := by first | omega | (simp <;> omega)) : Below B a w := h.trans (g.mono hB)
theorem u_s {S : List Nat} {a w : World} (h : Upd S a w) {p : Addr} (u : Value) (hp : p.block ∈ S ∨ a.heap.size ≤ p.block := by first | (left; simp; done) | (right; first | omega | (simp <;> omega))) : Upd S a (w.setCell p u) := h.setCell hp u
structure Two (w : World) (b : Nat) (x y : Int) : Prop where
  c0 : w.cell? ⟨b, 0, none⟩ = some (.int .i64 x)
  c1 : w.cell? ⟨b, 1, none⟩ = some (.int .i64 y)
  fz : ∀ o, w.frozen? ⟨b, o, none⟩ = false
  lt : b < w.heap.size
theorem Two.of_block {w w' : World} {b : Nat} {x y : Int} (h : Two w b x y) (hb : w'.heap[b]? = w.heap[b]?) (hz : w.heap.size ≤ w'.heap.size) : Two w' b x y := by
  have hc : ∀ o, w'.cell? ⟨b, o, none⟩ = w.cell? ⟨b, o, none⟩ := fun o => World.cell?_of_block (w := w) hb
  have hf : ∀ o, w'.frozen? ⟨b, o, none⟩ = w.frozen? ⟨b, o, none⟩ := fun o => World.frozen?_of_block (w := w) hb
  exact ⟨(hc _).trans h.c0, (hc _).trans h.c1, fun o => (hf o).trans (h.fz o), Nat.lt_of_lt_of_le h.lt hz⟩
theorem Two.below {w w' : World} {b : Nat} {x y : Int} (h : Two w b x y) (hb : Below w.heap.size w w') : Two w' b x y := h.of_block (hb.block b h.lt) hb.size
theorem Two.alloc {w : World} {b : Nat} {x y : Int} (h : Two w b x y) (o : Obj) : Two (w.alloc o) b x y := h.below ((Below.refl _ _).alloc (Nat.le_refl _) _)
theorem Two.drewN {w : World} {b : Nat} {x y : Int} (h : Two w b x y) (n : Nat) : Two (w.drewN n) b x y := h.below (below_drewN (Below.refl _ _) _)
theorem Two.drew {w : World} {b : Nat} {x y : Int} (h : Two w b x y) : Two w.drew b x y := h.below (Below.refl _ _).drew
theorem Two.other {w : World} {b : Nat} {x y : Int} (h : Two w b x y) {p : Addr} (hp : b ≠ p.block) (u : Value) : Two (w.setCell p u) b x y :=
  h.of_block (Below.heap_setCell _ _ _ _ hp) (by simp [World.setCell])
theorem frozen_set {w : World} {b o o' : Nat} {v : Value} : (w.setCell ⟨b, o, none⟩ v).frozen? ⟨b, o', none⟩ = w.frozen? ⟨b, o', none⟩ := World.frozen?_setCell w _ _ _
theorem Two.set0 {w : World} {b : Nat} {x y : Int} (h : Two w b x y) (z : Int) : Two (w.setCell ⟨b, 0, none⟩ (.int .i64 z)) b z y :=
  ⟨cell_set_same h.c0, (cell_set_off (by decide)).trans h.c1, fun o => (frozen_set).trans (h.fz o), by simp [World.setCell]; exact h.lt⟩
theorem Two.set1 {w : World} {b : Nat} {x y : Int} (h : Two w b x y) (z : Int) : Two (w.setCell ⟨b, 1, none⟩ (.int .i64 z)) b x z :=
  ⟨(cell_set_off (by decide)).trans h.c0, cell_set_same h.c1, fun o => (frozen_set).trans (h.fz o), by simp [World.setCell]; exact h.lt⟩
theorem Two.new (w : World) (x y : Int) (t : Nat) : Two (w.alloc (.cells #[.int .i64 x, .int .i64 y] t)) w.heap.size x y :=
  ⟨by simp, by simp, by simp, by simp⟩
theorem t_o {w : World} {b : Nat} {x y : Int} (h : Two w b x y) {p : Addr} (u : Value) (hp : b ≠ p.block := by first | omega | (simp <;> omega)) : Two (w.setCell p u) b x y := h.other hp u
theorem memLater {w w' : World} {b o : Nat} {v : Value} (h : Below w.heap.size w w') (hc : w.cell? ⟨b, o, none⟩ = some v) : w'.cell? ⟨b, o, none⟩ = some v := by
  have hb : b < w.heap.size := World.block_lt_of_cell? w ⟨b, o, none⟩ hc
  rw [h.cell (p := ⟨b, o, none⟩) hb]; exact hc
theorem memSet {w : World} {n b o o' : Nat} {v : Value} (h : n ≠ b) : (w.setCell ⟨n, o, none⟩ v).cell? ⟨b, o', none⟩ = w.cell? ⟨b, o', none⟩ :=
  World.cell?_setCell_other (w := w) (a := ⟨n, o, none⟩) (b := ⟨b, o', none⟩) (v := v) (fun e => h (by injection e))
structure Five (w : World) (b : Nat) (s : ByteArray) (p n : Int) (v c : Bool) : Prop where
  c0 : w.cell? ⟨b, 0, none⟩ = some (.string s)
  c1 : w.cell? ⟨b, 1, none⟩ = some (.int .i64 p)
  c2 : w.cell? ⟨b, 2, none⟩ = some (.int .i64 n)
  c3 : w.cell? ⟨b, 3, none⟩ = some (.bool v)
  c4 : w.cell? ⟨b, 4, none⟩ = some (.bool c)
  fz : ∀ o, w.frozen? ⟨b, o, none⟩ = false
  lt : b < w.heap.size
theorem Five.of_block {w w' : World} {b : Nat} {s : ByteArray} {p n : Int} {v c : Bool} (h : Five w b s p n v c) (hb : w'.heap[b]? = w.heap[b]?) (hz : w.heap.size ≤ w'.heap.size) : Five w' b s p n v c := by
  have hc : ∀ o, w'.cell? ⟨b, o, none⟩ = w.cell? ⟨b, o, none⟩ := fun o => World.cell?_of_block (w := w) hb
  have hf : ∀ o, w'.frozen? ⟨b, o, none⟩ = w.frozen? ⟨b, o, none⟩ := fun o => World.frozen?_of_block (w := w) hb
  exact ⟨(hc _).trans h.c0, (hc _).trans h.c1, (hc _).trans h.c2, (hc _).trans h.c3, (hc _).trans h.c4, fun o => (hf o).trans (h.fz o), Nat.lt_of_lt_of_le h.lt hz⟩
theorem Five.below {w w' : World} {b : Nat} {s : ByteArray} {p n : Int} {v c : Bool} (h : Five w b s p n v c) (hb : Below w.heap.size w w') : Five w' b s p n v c := h.of_block (hb.block b h.lt) hb.size
theorem Five.alloc {w : World} {b : Nat} {s : ByteArray} {p n : Int} {v c : Bool} (h : Five w b s p n v c) (o : Obj) : Five (w.alloc o) b s p n v c := h.below ((Below.refl _ _).alloc (Nat.le_refl _) _)
theorem Five.drewN {w : World} {b : Nat} {s : ByteArray} {p n : Int} {v c : Bool} (h : Five w b s p n v c) (k : Nat) : Five (w.drewN k) b s p n v c := h.below (below_drewN (Below.refl _ _) _)
theorem Five.drew {w : World} {b : Nat} {s : ByteArray} {p n : Int} {v c : Bool} (h : Five w b s p n v c) : Five w.drew b s p n v c := h.below (Below.refl _ _).drew
theorem Five.other {w : World} {b : Nat} {s : ByteArray} {p n : Int} {v c : Bool} (h : Five w b s p n v c) {q : Addr} (hp : b ≠ q.block) (u : Value) : Five (w.setCell q u) b s p n v c :=
  h.of_block (Below.heap_setCell _ _ _ _ hp) (by simp [World.setCell])
theorem Five.new (w : World) (s : ByteArray) (p n : Int) (v c : Bool) (t : Nat) : Five (w.alloc (.cells #[.string s, .int .i64 p, .int .i64 n, .bool v, .bool c] t)) w.heap.size s p n v c :=
  ⟨by simp, by simp, by simp, by simp, by simp, by simp, by simp⟩
theorem f_o {w : World} {b : Nat} {s : ByteArray} {p n : Int} {v c : Bool} (h : Five w b s p n v c) {q : Addr} (u : Value) (hp : b ≠ q.block := by first | omega | (simp <;> omega)) : Five (w.setCell q u) b s p n v c := h.other hp u
structure Pg where
  t : ByteArray
  pl : Nat
  anchor : Nat
  mode : Int
  regs : Value
  now : ByteArray
  back : Value
  forth : Value
  fnd : Int
  findC : Int
  reg : Int
  n : Nat
  verb : Int
  behind : Nat
  part : Int
structure DkAt (w : World) (d : Nat) (p : Pg) : Prop where
  c0 : w.cell? ⟨d, 0, none⟩ = some (.string p.t)
  c1 : w.cell? ⟨d, 1, none⟩ = some (.int .i64 (p.pl : Nat))
  c2 : w.cell? ⟨d, 2, none⟩ = some (.int .i64 (p.anchor : Nat))
  c3 : w.cell? ⟨d, 3, none⟩ = some (.int .i64 p.mode)
  c4 : w.cell? ⟨d, 4, none⟩ = some (p.regs)
  c5 : w.cell? ⟨d, 5, none⟩ = some (.string p.now)
  c6 : w.cell? ⟨d, 6, none⟩ = some (p.back)
  c7 : w.cell? ⟨d, 7, none⟩ = some (p.forth)
  c8 : w.cell? ⟨d, 8, none⟩ = some (.int .u8 p.fnd)
  c9 : w.cell? ⟨d, 9, none⟩ = some (.int .u8 p.findC)
  fz : ∀ o, w.frozen? ⟨d, o, none⟩ = false
  lt : d < w.heap.size
structure BgAt (w : World) (r d : Nat) (p : Pg) : Prop where
  c0 : w.cell? ⟨r, 0, none⟩ = some (.pointer (some ⟨d, 0, none⟩))
  c1 : w.cell? ⟨r, 1, none⟩ = some (.int .u8 p.reg)
  c2 : w.cell? ⟨r, 2, none⟩ = some (.int .i64 (p.n : Nat))
  c3 : w.cell? ⟨r, 3, none⟩ = some (.int .u8 p.verb)
  c4 : w.cell? ⟨r, 4, none⟩ = some (.int .i64 (p.behind : Nat))
  c5 : w.cell? ⟨r, 5, none⟩ = some (.int .u8 p.part)
  fz : ∀ o, w.frozen? ⟨r, o, none⟩ = false
  lt : r < w.heap.size
structure RdAt (w : World) (r d : Nat) (p : Pg) : Prop where
  dk : DkAt w d p
  bg : BgAt w r d p
  ne : r ≠ d
theorem DkAt.of_block {w w' : World} {d : Nat} {p : Pg} (h : DkAt w d p) (hb : w'.heap[d]? = w.heap[d]?) (hz : w.heap.size ≤ w'.heap.size) : DkAt w' d p := by
  have hc : ∀ o, w'.cell? ⟨d, o, none⟩ = w.cell? ⟨d, o, none⟩ := fun o => World.cell?_of_block (w := w) hb
  have hf : ∀ o, w'.frozen? ⟨d, o, none⟩ = w.frozen? ⟨d, o, none⟩ := fun o => World.frozen?_of_block (w := w) hb
  exact ⟨(hc _).trans h.c0, (hc _).trans h.c1, (hc _).trans h.c2, (hc _).trans h.c3, (hc _).trans h.c4, (hc _).trans h.c5, (hc _).trans h.c6, (hc _).trans h.c7, (hc _).trans h.c8, (hc _).trans h.c9, fun o => (hf o).trans (h.fz o), Nat.lt_of_lt_of_le h.lt hz⟩
theorem DkAt.other {w : World} {d : Nat} {p : Pg} (h : DkAt w d p) {q : Addr} (hp : d ≠ q.block) (u : Value) : DkAt (w.setCell q u) d p := h.of_block (Below.heap_setCell _ _ _ _ hp) (by simp [World.setCell])
theorem BgAt.of_block {w w' : World} {r d : Nat} {p : Pg} (h : BgAt w r d p) (hb : w'.heap[r]? = w.heap[r]?) (hz : w.heap.size ≤ w'.heap.size) : BgAt w' r d p := by
  have hc : ∀ o, w'.cell? ⟨r, o, none⟩ = w.cell? ⟨r, o, none⟩ := fun o => World.cell?_of_block (w := w) hb
  have hf : ∀ o, w'.frozen? ⟨r, o, none⟩ = w.frozen? ⟨r, o, none⟩ := fun o => World.frozen?_of_block (w := w) hb
  exact ⟨(hc _).trans h.c0, (hc _).trans h.c1, (hc _).trans h.c2, (hc _).trans h.c3, (hc _).trans h.c4, (hc _).trans h.c5, fun o => (hf o).trans (h.fz o), Nat.lt_of_lt_of_le h.lt hz⟩
theorem BgAt.other {w : World} {r d : Nat} {p : Pg} (h : BgAt w r d p) {q : Addr} (hp : r ≠ q.block) (u : Value) : BgAt (w.setCell q u) r d p := h.of_block (Below.heap_setCell _ _ _ _ hp) (by simp [World.setCell])
theorem RdAt.of_block {w w' : World} {r d : Nat} {p : Pg} (h : RdAt w r d p) (hr : w'.heap[r]? = w.heap[r]?) (hd : w'.heap[d]? = w.heap[d]?) (hz : w.heap.size ≤ w'.heap.size) : RdAt w' r d p := ⟨h.dk.of_block hd hz, h.bg.of_block hr hz, h.ne⟩
theorem RdAt.below {w w' : World} {r d : Nat} {p : Pg} (h : RdAt w r d p) (hb : Below w.heap.size w w') : RdAt w' r d p := h.of_block (hb.block r h.bg.lt) (hb.block d h.dk.lt) hb.size
theorem RdAt.alloc {w : World} {r d : Nat} {p : Pg} (h : RdAt w r d p) (o : Obj) : RdAt (w.alloc o) r d p := h.below ((Below.refl _ _).alloc (Nat.le_refl _) _)
theorem RdAt.drewN {w : World} {r d : Nat} {p : Pg} (h : RdAt w r d p) (n : Nat) : RdAt (w.drewN n) r d p := h.below (below_drewN (Below.refl _ _) _)
theorem RdAt.drew {w : World} {r d : Nat} {p : Pg} (h : RdAt w r d p) : RdAt w.drew r d p := h.below (Below.refl _ _).drew
theorem RdAt.upd {S : List Nat} {w w' : World} {r d : Nat} {p : Pg} (h : RdAt w r d p) (hu : Upd S w w') (hr : r ∉ S) (hd : d ∉ S) : RdAt w' r d p := h.of_block (hu.block r h.bg.lt hr) (hu.block d h.dk.lt hd) hu.size
theorem RdAt.other {w : World} {r d : Nat} {p : Pg} (h : RdAt w r d p) {q : Addr} (hr : r ≠ q.block) (hd : d ≠ q.block) (u : Value) : RdAt (w.setCell q u) r d p := ⟨h.dk.other hd u, h.bg.other hr u, h.ne⟩
theorem DkAt.beg {w : World} {d : Nat} {p : Pg} (h : DkAt w d p) (a : Int) (b : Nat) (c : Int) (e : Nat) (g : Int) : DkAt w d { p with reg := a, n := b, verb := c, behind := e, part := g } := ⟨h.c0, h.c1, h.c2, h.c3, h.c4, h.c5, h.c6, h.c7, h.c8, h.c9, h.fz, h.lt⟩
theorem DkAt.set_t {w : World} {d : Nat} {p : Pg} (h : DkAt w d p) (x : ByteArray) : DkAt (w.setCell ⟨d, 0, none⟩ (.string x)) d { p with t := x } :=
  ⟨cell_set_same h.c0, (cell_set_off (by decide)).trans h.c1, (cell_set_off (by decide)).trans h.c2, (cell_set_off (by decide)).trans h.c3, (cell_set_off (by decide)).trans h.c4, (cell_set_off (by decide)).trans h.c5, (cell_set_off (by decide)).trans h.c6, (cell_set_off (by decide)).trans h.c7, (cell_set_off (by decide)).trans h.c8, (cell_set_off (by decide)).trans h.c9, fun o => frozen_set.trans (h.fz o), by simp [World.setCell]; exact h.lt⟩
theorem RdAt.set_t {w : World} {r d : Nat} {p : Pg} (h : RdAt w r d p) (x : ByteArray) : RdAt (w.setCell ⟨d, 0, none⟩ (.string x)) r d { p with t := x } :=
  ⟨h.dk.set_t x, by have b := h.bg.other (q := ⟨d, 0, none⟩) h.ne (.string x); exact ⟨b.c0, b.c1, b.c2, b.c3, b.c4, b.c5, b.fz, b.lt⟩, h.ne⟩
theorem DkAt.set_pl {w : World} {d : Nat} {p : Pg} (h : DkAt w d p) (x : Nat) : DkAt (w.setCell ⟨d, 1, none⟩ (.int .i64 (x : Nat))) d { p with pl := x } :=
  ⟨(cell_set_off (by decide)).trans h.c0, cell_set_same h.c1, (cell_set_off (by decide)).trans h.c2, (cell_set_off (by decide)).trans h.c3, (cell_set_off (by decide)).trans h.c4, (cell_set_off (by decide)).trans h.c5, (cell_set_off (by decide)).trans h.c6, (cell_set_off (by decide)).trans h.c7, (cell_set_off (by decide)).trans h.c8, (cell_set_off (by decide)).trans h.c9, fun o => frozen_set.trans (h.fz o), by simp [World.setCell]; exact h.lt⟩
theorem RdAt.set_pl {w : World} {r d : Nat} {p : Pg} (h : RdAt w r d p) (x : Nat) : RdAt (w.setCell ⟨d, 1, none⟩ (.int .i64 (x : Nat))) r d { p with pl := x } :=
  ⟨h.dk.set_pl x, by have b := h.bg.other (q := ⟨d, 1, none⟩) h.ne (.int .i64 (x : Nat)); exact ⟨b.c0, b.c1, b.c2, b.c3, b.c4, b.c5, b.fz, b.lt⟩, h.ne⟩
theorem DkAt.set_anchor {w : World} {d : Nat} {p : Pg} (h : DkAt w d p) (x : Nat) : DkAt (w.setCell ⟨d, 2, none⟩ (.int .i64 (x : Nat))) d { p with anchor := x } :=
  ⟨(cell_set_off (by decide)).trans h.c0, (cell_set_off (by decide)).trans h.c1, cell_set_same h.c2, (cell_set_off (by decide)).trans h.c3, (cell_set_off (by decide)).trans h.c4, (cell_set_off (by decide)).trans h.c5, (cell_set_off (by decide)).trans h.c6, (cell_set_off (by decide)).trans h.c7, (cell_set_off (by decide)).trans h.c8, (cell_set_off (by decide)).trans h.c9, fun o => frozen_set.trans (h.fz o), by simp [World.setCell]; exact h.lt⟩
theorem RdAt.set_anchor {w : World} {r d : Nat} {p : Pg} (h : RdAt w r d p) (x : Nat) : RdAt (w.setCell ⟨d, 2, none⟩ (.int .i64 (x : Nat))) r d { p with anchor := x } :=
  ⟨h.dk.set_anchor x, by have b := h.bg.other (q := ⟨d, 2, none⟩) h.ne (.int .i64 (x : Nat)); exact ⟨b.c0, b.c1, b.c2, b.c3, b.c4, b.c5, b.fz, b.lt⟩, h.ne⟩
theorem DkAt.set_mode {w : World} {d : Nat} {p : Pg} (h : DkAt w d p) (x : Int) : DkAt (w.setCell ⟨d, 3, none⟩ (.int .i64 x)) d { p with mode := x } :=
  ⟨(cell_set_off (by decide)).trans h.c0, (cell_set_off (by decide)).trans h.c1, (cell_set_off (by decide)).trans h.c2, cell_set_same h.c3, (cell_set_off (by decide)).trans h.c4, (cell_set_off (by decide)).trans h.c5, (cell_set_off (by decide)).trans h.c6, (cell_set_off (by decide)).trans h.c7, (cell_set_off (by decide)).trans h.c8, (cell_set_off (by decide)).trans h.c9, fun o => frozen_set.trans (h.fz o), by simp [World.setCell]; exact h.lt⟩
theorem RdAt.set_mode {w : World} {r d : Nat} {p : Pg} (h : RdAt w r d p) (x : Int) : RdAt (w.setCell ⟨d, 3, none⟩ (.int .i64 x)) r d { p with mode := x } :=
  ⟨h.dk.set_mode x, by have b := h.bg.other (q := ⟨d, 3, none⟩) h.ne (.int .i64 x); exact ⟨b.c0, b.c1, b.c2, b.c3, b.c4, b.c5, b.fz, b.lt⟩, h.ne⟩
theorem DkAt.set_now {w : World} {d : Nat} {p : Pg} (h : DkAt w d p) (x : ByteArray) : DkAt (w.setCell ⟨d, 5, none⟩ (.string x)) d { p with now := x } :=
  ⟨(cell_set_off (by decide)).trans h.c0, (cell_set_off (by decide)).trans h.c1, (cell_set_off (by decide)).trans h.c2, (cell_set_off (by decide)).trans h.c3, (cell_set_off (by decide)).trans h.c4, cell_set_same h.c5, (cell_set_off (by decide)).trans h.c6, (cell_set_off (by decide)).trans h.c7, (cell_set_off (by decide)).trans h.c8, (cell_set_off (by decide)).trans h.c9, fun o => frozen_set.trans (h.fz o), by simp [World.setCell]; exact h.lt⟩
theorem RdAt.set_now {w : World} {r d : Nat} {p : Pg} (h : RdAt w r d p) (x : ByteArray) : RdAt (w.setCell ⟨d, 5, none⟩ (.string x)) r d { p with now := x } :=
  ⟨h.dk.set_now x, by have b := h.bg.other (q := ⟨d, 5, none⟩) h.ne (.string x); exact ⟨b.c0, b.c1, b.c2, b.c3, b.c4, b.c5, b.fz, b.lt⟩, h.ne⟩
theorem DkAt.set_back {w : World} {d : Nat} {p : Pg} (h : DkAt w d p) (x : Value) : DkAt (w.setCell ⟨d, 6, none⟩ (x)) d { p with back := x } :=
  ⟨(cell_set_off (by decide)).trans h.c0, (cell_set_off (by decide)).trans h.c1, (cell_set_off (by decide)).trans h.c2, (cell_set_off (by decide)).trans h.c3, (cell_set_off (by decide)).trans h.c4, (cell_set_off (by decide)).trans h.c5, cell_set_same h.c6, (cell_set_off (by decide)).trans h.c7, (cell_set_off (by decide)).trans h.c8, (cell_set_off (by decide)).trans h.c9, fun o => frozen_set.trans (h.fz o), by simp [World.setCell]; exact h.lt⟩
theorem RdAt.set_back {w : World} {r d : Nat} {p : Pg} (h : RdAt w r d p) (x : Value) : RdAt (w.setCell ⟨d, 6, none⟩ (x)) r d { p with back := x } :=
  ⟨h.dk.set_back x, by have b := h.bg.other (q := ⟨d, 6, none⟩) h.ne (x); exact ⟨b.c0, b.c1, b.c2, b.c3, b.c4, b.c5, b.fz, b.lt⟩, h.ne⟩
theorem DkAt.set_forth {w : World} {d : Nat} {p : Pg} (h : DkAt w d p) (x : Value) : DkAt (w.setCell ⟨d, 7, none⟩ (x)) d { p with forth := x } :=
  ⟨(cell_set_off (by decide)).trans h.c0, (cell_set_off (by decide)).trans h.c1, (cell_set_off (by decide)).trans h.c2, (cell_set_off (by decide)).trans h.c3, (cell_set_off (by decide)).trans h.c4, (cell_set_off (by decide)).trans h.c5, (cell_set_off (by decide)).trans h.c6, cell_set_same h.c7, (cell_set_off (by decide)).trans h.c8, (cell_set_off (by decide)).trans h.c9, fun o => frozen_set.trans (h.fz o), by simp [World.setCell]; exact h.lt⟩
theorem RdAt.set_forth {w : World} {r d : Nat} {p : Pg} (h : RdAt w r d p) (x : Value) : RdAt (w.setCell ⟨d, 7, none⟩ (x)) r d { p with forth := x } :=
  ⟨h.dk.set_forth x, by have b := h.bg.other (q := ⟨d, 7, none⟩) h.ne (x); exact ⟨b.c0, b.c1, b.c2, b.c3, b.c4, b.c5, b.fz, b.lt⟩, h.ne⟩
theorem DkAt.set_fnd {w : World} {d : Nat} {p : Pg} (h : DkAt w d p) (x : Int) : DkAt (w.setCell ⟨d, 8, none⟩ (.int .u8 x)) d { p with fnd := x } :=
  ⟨(cell_set_off (by decide)).trans h.c0, (cell_set_off (by decide)).trans h.c1, (cell_set_off (by decide)).trans h.c2, (cell_set_off (by decide)).trans h.c3, (cell_set_off (by decide)).trans h.c4, (cell_set_off (by decide)).trans h.c5, (cell_set_off (by decide)).trans h.c6, (cell_set_off (by decide)).trans h.c7, cell_set_same h.c8, (cell_set_off (by decide)).trans h.c9, fun o => frozen_set.trans (h.fz o), by simp [World.setCell]; exact h.lt⟩
theorem RdAt.set_fnd {w : World} {r d : Nat} {p : Pg} (h : RdAt w r d p) (x : Int) : RdAt (w.setCell ⟨d, 8, none⟩ (.int .u8 x)) r d { p with fnd := x } :=
  ⟨h.dk.set_fnd x, by have b := h.bg.other (q := ⟨d, 8, none⟩) h.ne (.int .u8 x); exact ⟨b.c0, b.c1, b.c2, b.c3, b.c4, b.c5, b.fz, b.lt⟩, h.ne⟩
theorem DkAt.set_findC {w : World} {d : Nat} {p : Pg} (h : DkAt w d p) (x : Int) : DkAt (w.setCell ⟨d, 9, none⟩ (.int .u8 x)) d { p with findC := x } :=
  ⟨(cell_set_off (by decide)).trans h.c0, (cell_set_off (by decide)).trans h.c1, (cell_set_off (by decide)).trans h.c2, (cell_set_off (by decide)).trans h.c3, (cell_set_off (by decide)).trans h.c4, (cell_set_off (by decide)).trans h.c5, (cell_set_off (by decide)).trans h.c6, (cell_set_off (by decide)).trans h.c7, (cell_set_off (by decide)).trans h.c8, cell_set_same h.c9, fun o => frozen_set.trans (h.fz o), by simp [World.setCell]; exact h.lt⟩
theorem RdAt.set_findC {w : World} {r d : Nat} {p : Pg} (h : RdAt w r d p) (x : Int) : RdAt (w.setCell ⟨d, 9, none⟩ (.int .u8 x)) r d { p with findC := x } :=
  ⟨h.dk.set_findC x, by have b := h.bg.other (q := ⟨d, 9, none⟩) h.ne (.int .u8 x); exact ⟨b.c0, b.c1, b.c2, b.c3, b.c4, b.c5, b.fz, b.lt⟩, h.ne⟩
theorem BgAt.set_reg {w : World} {r d : Nat} {p : Pg} (h : BgAt w r d p) (x : Int) : BgAt (w.setCell ⟨r, 1, none⟩ (.int .u8 x)) r d { p with reg := x } :=
  ⟨(cell_set_off (by decide)).trans h.c0, cell_set_same h.c1, (cell_set_off (by decide)).trans h.c2, (cell_set_off (by decide)).trans h.c3, (cell_set_off (by decide)).trans h.c4, (cell_set_off (by decide)).trans h.c5, fun o => frozen_set.trans (h.fz o), by simp [World.setCell]; exact h.lt⟩
theorem RdAt.set_reg {w : World} {r d : Nat} {p : Pg} (h : RdAt w r d p) (x : Int) : RdAt (w.setCell ⟨r, 1, none⟩ (.int .u8 x)) r d { p with reg := x } :=
  ⟨by have b := h.dk.other (q := ⟨r, 1, none⟩) (Ne.symm h.ne) (.int .u8 x); exact ⟨b.c0, b.c1, b.c2, b.c3, b.c4, b.c5, b.c6, b.c7, b.c8, b.c9, b.fz, b.lt⟩, h.bg.set_reg x, h.ne⟩
theorem BgAt.set_n {w : World} {r d : Nat} {p : Pg} (h : BgAt w r d p) (x : Nat) : BgAt (w.setCell ⟨r, 2, none⟩ (.int .i64 (x : Nat))) r d { p with n := x } :=
  ⟨(cell_set_off (by decide)).trans h.c0, (cell_set_off (by decide)).trans h.c1, cell_set_same h.c2, (cell_set_off (by decide)).trans h.c3, (cell_set_off (by decide)).trans h.c4, (cell_set_off (by decide)).trans h.c5, fun o => frozen_set.trans (h.fz o), by simp [World.setCell]; exact h.lt⟩
theorem RdAt.set_n {w : World} {r d : Nat} {p : Pg} (h : RdAt w r d p) (x : Nat) : RdAt (w.setCell ⟨r, 2, none⟩ (.int .i64 (x : Nat))) r d { p with n := x } :=
  ⟨by have b := h.dk.other (q := ⟨r, 2, none⟩) (Ne.symm h.ne) (.int .i64 (x : Nat)); exact ⟨b.c0, b.c1, b.c2, b.c3, b.c4, b.c5, b.c6, b.c7, b.c8, b.c9, b.fz, b.lt⟩, h.bg.set_n x, h.ne⟩
theorem BgAt.set_verb {w : World} {r d : Nat} {p : Pg} (h : BgAt w r d p) (x : Int) : BgAt (w.setCell ⟨r, 3, none⟩ (.int .u8 x)) r d { p with verb := x } :=
  ⟨(cell_set_off (by decide)).trans h.c0, (cell_set_off (by decide)).trans h.c1, (cell_set_off (by decide)).trans h.c2, cell_set_same h.c3, (cell_set_off (by decide)).trans h.c4, (cell_set_off (by decide)).trans h.c5, fun o => frozen_set.trans (h.fz o), by simp [World.setCell]; exact h.lt⟩
theorem RdAt.set_verb {w : World} {r d : Nat} {p : Pg} (h : RdAt w r d p) (x : Int) : RdAt (w.setCell ⟨r, 3, none⟩ (.int .u8 x)) r d { p with verb := x } :=
  ⟨by have b := h.dk.other (q := ⟨r, 3, none⟩) (Ne.symm h.ne) (.int .u8 x); exact ⟨b.c0, b.c1, b.c2, b.c3, b.c4, b.c5, b.c6, b.c7, b.c8, b.c9, b.fz, b.lt⟩, h.bg.set_verb x, h.ne⟩
theorem BgAt.set_behind {w : World} {r d : Nat} {p : Pg} (h : BgAt w r d p) (x : Nat) : BgAt (w.setCell ⟨r, 4, none⟩ (.int .i64 (x : Nat))) r d { p with behind := x } :=
  ⟨(cell_set_off (by decide)).trans h.c0, (cell_set_off (by decide)).trans h.c1, (cell_set_off (by decide)).trans h.c2, (cell_set_off (by decide)).trans h.c3, cell_set_same h.c4, (cell_set_off (by decide)).trans h.c5, fun o => frozen_set.trans (h.fz o), by simp [World.setCell]; exact h.lt⟩
theorem RdAt.set_behind {w : World} {r d : Nat} {p : Pg} (h : RdAt w r d p) (x : Nat) : RdAt (w.setCell ⟨r, 4, none⟩ (.int .i64 (x : Nat))) r d { p with behind := x } :=
  ⟨by have b := h.dk.other (q := ⟨r, 4, none⟩) (Ne.symm h.ne) (.int .i64 (x : Nat)); exact ⟨b.c0, b.c1, b.c2, b.c3, b.c4, b.c5, b.c6, b.c7, b.c8, b.c9, b.fz, b.lt⟩, h.bg.set_behind x, h.ne⟩
theorem BgAt.set_part {w : World} {r d : Nat} {p : Pg} (h : BgAt w r d p) (x : Int) : BgAt (w.setCell ⟨r, 5, none⟩ (.int .u8 x)) r d { p with part := x } :=
  ⟨(cell_set_off (by decide)).trans h.c0, (cell_set_off (by decide)).trans h.c1, (cell_set_off (by decide)).trans h.c2, (cell_set_off (by decide)).trans h.c3, (cell_set_off (by decide)).trans h.c4, cell_set_same h.c5, fun o => frozen_set.trans (h.fz o), by simp [World.setCell]; exact h.lt⟩
theorem RdAt.set_part {w : World} {r d : Nat} {p : Pg} (h : RdAt w r d p) (x : Int) : RdAt (w.setCell ⟨r, 5, none⟩ (.int .u8 x)) r d { p with part := x } :=
  ⟨by have b := h.dk.other (q := ⟨r, 5, none⟩) (Ne.symm h.ne) (.int .u8 x); exact ⟨b.c0, b.c1, b.c2, b.c3, b.c4, b.c5, b.c6, b.c7, b.c8, b.c9, b.fz, b.lt⟩, h.bg.set_part x, h.ne⟩
theorem r_o {w : World} {r d : Nat} {p : Pg} (h : RdAt w r d p) {q : Addr} (u : Value) (hr : r ≠ q.block := by first | omega | (simp <;> omega)) (hd : d ≠ q.block := by first | omega | (simp <;> omega)) : RdAt (w.setCell q u) r d p := h.other hr hd u
end Go.Proofs.YtlendfhehhacpaaGreat
