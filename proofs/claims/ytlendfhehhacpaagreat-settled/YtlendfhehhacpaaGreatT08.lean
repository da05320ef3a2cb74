/- A part. -/
import Derived.Test.YtlendfhehhacpaaGreatT04
import Derived.Laws.AppendOwn
import Derived.Test.YtlendfhehhacpaaGreatT05
set_option linter.unusedVariables false
set_option linter.unusedSimpArgs false
set_option maxRecDepth 100000
set_option maxHeartbeats 8000000
namespace Go.Proofs.YtlendfhehhacpaaGreat
open Go.RowKit Tryz
structure BdAt (w : World) (b r d : Nat) (tv : Value) (dg : ByteArray) : Prop where
 c0 : w.cell? ⟨b, 0, none⟩ = some (.pointer (some ⟨r, 0, none⟩))
 c1 : w.cell? ⟨b, 1, none⟩ = some tv
 c2 : w.cell? ⟨b, 2, none⟩ = some (.string dg)
 c3 : w.cell? ⟨b, 3, none⟩ = some (.pointer (some ⟨r, 0, none⟩))
 c4 : w.cell? ⟨b, 4, none⟩ = some (.pointer (some ⟨d, 0, none⟩))
 c5 : w.cell? ⟨b, 5, none⟩ = some (.pointer (some ⟨r, 0, none⟩))
 fz : ∀ o, w.frozen? ⟨b, o, none⟩ = false
 lt : b < w.heap.size
theorem BdAt.of_block {w w' : World} {b r d : Nat} {tv : Value} {dg : ByteArray} (h : BdAt w b r d tv dg) (hb : w'.heap[b]? = w.heap[b]?) (hz : w.heap.size ≤ w'.heap.size) : BdAt w' b r d tv dg := by
 have hc : ∀ o, w'.cell? ⟨b, o, none⟩ = w.cell? ⟨b, o, none⟩ := fun o => World.cell?_of_block (w := w) hb
 have hf : ∀ o, w'.frozen? ⟨b, o, none⟩ = w.frozen? ⟨b, o, none⟩ := fun o => World.frozen?_of_block (w := w) hb
 exact ⟨(hc _).trans h.c0, (hc _).trans h.c1, (hc _).trans h.c2, (hc _).trans h.c3, (hc _).trans h.c4, (hc _).trans h.c5, fun o => (hf o).trans (h.fz o), Nat.lt_of_lt_of_le h.lt hz⟩
theorem BdAt.below {w w' : World} {b r d : Nat} {tv : Value} {dg : ByteArray} (h : BdAt w b r d tv dg) (hb : Below w.heap.size w w') : BdAt w' b r d tv dg := h.of_block (hb.block b h.lt) hb.size
theorem BdAt.alloc {w : World} {b r d : Nat} {tv : Value} {dg : ByteArray} (h : BdAt w b r d tv dg) (o : Obj) : BdAt (w.alloc o) b r d tv dg := h.below ((Below.refl _ _).alloc (Nat.le_refl _) _)
theorem BdAt.drewN {w : World} {b r d : Nat} {tv : Value} {dg : ByteArray} (h : BdAt w b r d tv dg) (n : Nat) : BdAt (w.drewN n) b r d tv dg := h.below (below_drewN (Below.refl _ _) _)
theorem BdAt.drew {w : World} {b r d : Nat} {tv : Value} {dg : ByteArray} (h : BdAt w b r d tv dg) : BdAt w.drew b r d tv dg := h.below (Below.refl _ _).drew
theorem BdAt.upd {S : List Nat} {w w' : World} {b r d : Nat} {tv : Value} {dg : ByteArray} (h : BdAt w b r d tv dg) (hu : Upd S w w') (hn : b ∉ S) : BdAt w' b r d tv dg := h.of_block (hu.block b h.lt hn) hu.size
theorem BdAt.other {w : World} {b r d : Nat} {tv : Value} {dg : ByteArray} (h : BdAt w b r d tv dg) {q : Addr} (hp : b ≠ q.block) (u : Value) : BdAt (w.setCell q u) b r d tv dg := h.of_block (Below.heap_setCell _ _ _ _ hp) (by simp [World.setCell])
theorem BdAt.set_tv {w : World} {b r d : Nat} {tv : Value} {dg : ByteArray} (h : BdAt w b r d tv dg) (x : Value) : BdAt (w.setCell ⟨b, 1, none⟩ (x)) b r d x dg :=
 ⟨(cell_set_off qd).trans h.c0, cell_set_same h.c1, (cell_set_off qd).trans h.c2, (cell_set_off qd).trans h.c3, (cell_set_off qd).trans h.c4, (cell_set_off qd).trans h.c5, fun o => frozen_set.trans (h.fz o), by simp [World.setCell]; exact h.lt⟩
theorem BdAt.set_dg {w : World} {b r d : Nat} {tv : Value} {dg : ByteArray} (h : BdAt w b r d tv dg) (x : ByteArray) : BdAt (w.setCell ⟨b, 2, none⟩ (.string x)) b r d tv x :=
 ⟨(cell_set_off qd).trans h.c0, (cell_set_off qd).trans h.c1, cell_set_same h.c2, (cell_set_off qd).trans h.c3, (cell_set_off qd).trans h.c4, (cell_set_off qd).trans h.c5, fun o => frozen_set.trans (h.fz o), by simp [World.setCell]; exact h.lt⟩
theorem eqIn_u8 (d : Nat) (a b : Int) (w : World) : (Op.equalIn (d + 1) 5 (.int .u8 a) (.int .u8 b)).run Tryz.prog w = .ok (a == b) w := by
 simp [Op.equalIn, run_underlying underlying5]
theorem eq_begun_in (k : Nat) (a b c d e : Int) (w : World) : (Op.equalIn (k + 2) 85 (.agg #[.int .u8 a, .int .i64 b, .int .u8 c, .int .i64 d, .int .u8 e]) (.agg #[.int .u8 0, .int .i64 0, .int .u8 0, .int .i64 0, .int .u8 0])).run Tryz.prog w = .ok ((a == 0) && (b == 0) && (c == 0) && (d == 0) && (e == 0)) w := by
 have h := fun x y w => eqIn_int k x y w
 have h' := fun x y w => eqIn_u8 k x y w
 rw [show k + 2 = (k + 1) + 1 by omega]
 rw [Op.equalIn]
 simp only [Sem.run_bind, run_underlying underlying85, Result.andThen_ok]
 simp [go_sem, part, h, h', Std.Legacy.Range.forIn_eq_forIn_range', List.range']
 by_cases h1 : a = 0 <;> by_cases h2 : b = 0 <;> by_cases h3 : c = 0 <;> by_cases h4 : d = 0 <;> by_cases h5 : e = 0 <;> simp [h1, h2, h3, h4, h5]
theorem eq_begun (a b c d e : Int) (w : World) : (Op.equal 85 (.agg #[.int .u8 a, .int .i64 b, .int .u8 c, .int .i64 d, .int .u8 e]) (.agg #[.int .u8 0, .int .i64 0, .int .u8 0, .int .i64 0, .int .u8 0])).run Tryz.prog w = .ok ((a == 0) && (b == 0) && (c == 0) && (d == 0) && (e == 0)) w := eq_begun_in 9998 a b c d e w
theorem neq_begun (a b c d e : Int) (w : World) : (binOp .neq 85 (.agg #[.int .u8 a, .int .i64 b, .int .u8 c, .int .i64 d, .int .u8 e]) (.agg #[.int .u8 0, .int .i64 0, .int .u8 0, .int .i64 0, .int .u8 0])).run Tryz.prog w = .ok (.bool (!((a == 0) && (b == 0) && (c == 0) && (d == 0) && (e == 0)))) w := by
 have e : binOp .neq 85 (.agg #[.int .u8 a, .int .i64 b, .int .u8 c, .int .i64 d, .int .u8 e]) (.agg #[.int .u8 0, .int .i64 0, .int .u8 0, .int .i64 0, .int .u8 0]) = (do pure (.bool (!(← Op.equal 85 (.agg #[.int .u8 a, .int .i64 b, .int .u8 c, .int .i64 d, .int .u8 e]) (.agg #[.int .u8 0, .int .i64 0, .int .u8 0, .int .i64 0, .int .u8 0]))))) := rfl
 rw [e, Sem.run_bind, eq_begun]
 rfl
def waits (p : Pg) : Bool := !((p.reg == 0) && ((p.n : Int) == 0) && (p.verb == 0) && ((p.behind : Int) == 0) && (p.part == 0))
abbrev Pg.none' (p : Pg) : Pg := { p with reg := 0, n := 0, verb := 0, behind := 0, part := 0 }
theorem mWaiting (r d : Nat) (p : Pg) (w : World) (h : RdAt w r d p) :
  qC 39 #[.pointer (some ⟨r, 1, none⟩)] w (.bool (waits p)) := by
 obtain ⟨c0, c1, c2, c3, c4, c5, fz, lt⟩ := h.bg
 have hq := neq_begun p.reg p.n p.verb p.behind p.part
 have HW : Hid (waits p = !((p.reg == 0) && ((p.n : Int) == 0) && (p.verb == 0) && ((p.behind : Int) == 0) && (p.part == 0))) := rfl
 generalize waits p = y at *
 clear h
 have l1 : r < w.heap.size + 1 := by omega
 go_enter func39, ntmps39
 go_wp2
 exact qV (.bool (!((p.reg == 0) && ((p.n : Int) == 0) && (p.verb == 0) && ((p.behind : Int) == 0) && (p.part == 0)))) (by simp [results, results39, go_sem]) (ret_bool (by rw [HW.out]))
theorem qt80 {P : Prop} (h : P := by
  go_wp2
  go_end0
  refine ⟨rfl, ?_, ?_⟩
  ·repeat exact qRd
  ·repeat exact qU
 ) : P := h
theorem mForget (r d : Nat) (p : Pg) (w : World) (h : RdAt w r d p) :
  Calls Tryz.prog 65 #[.pointer (some ⟨r, 1, none⟩)] w fun e w' => e = .returned (.tuple #[]) ∧ RdAt w' r d p.none' ∧ Upd [r] w w' := by
 have HF := ((((h.set_reg 0).set_n 0).set_verb 0).set_behind 0).set_part 0
 rw [show ((0 : Nat) : Int) = 0 from rfl] at HF
 obtain ⟨c0, c1, c2, c3, c4, c5, fz, lt⟩ := h.bg
 clear h
 go_enter func65, ntmps65
 exact qt80
theorem qt15 {P : Prop} (h : P := by
  go_wp2
  go_ret
  refine ⟨rfl, ?_, ?_⟩
  ·repeat exact qRd
  ·repeat exact qU
 ) : P := h
theorem mAwait (r d : Nat) (p : Pg) (part : Int) (w : World) (h : RdAt w r d p) :
  Calls Tryz.prog 142 #[.pointer (some ⟨r, 1, none⟩), .int .u8 part] w fun e w' => e = .returned (.int .i64 0) ∧ RdAt w' r d { p with part := part } ∧ Upd [r] w w' := by
 have HF := h.set_part part
 obtain ⟨c0, c1, c2, c3, c4, c5, fz, lt⟩ := h.bg
 clear h
 go_enter func142, ntmps142
 exact qt15
theorem mOn_normal (b r d : Nat) (tv : Value) (dg : ByteArray) (p : Pg) (w : World) (hb : BdAt w b r d tv dg) (h : RdAt w r d p) (hm : p.mode = 0) :
  qC 64 #[.pointer (some ⟨b, 0, none⟩)] w (.iface 77 (.agg #[.pointer (some ⟨r, 0, none⟩)])) := by
 obtain ⟨b0, b1, b2, b3, b4, b5, bz, bl⟩ := hb
 have c0 := h.bg.c0
 have c3 := h.dk.c3
 rw [hm] at c3
 clear h
 go_enter func64, ntmps64
 go_wp2
 exact qV (.iface 77 (.agg #[.pointer (some ⟨r, 0, none⟩)])) (by simp [results, results64, go_sem]) rfl
theorem mOn_marking (b r d : Nat) (tv : Value) (dg : ByteArray) (p : Pg) (w : World) (hb : BdAt w b r d tv dg) (h : RdAt w r d p) (hm : p.mode = 2 ∨ p.mode = 3) :
  qC 64 #[.pointer (some ⟨b, 0, none⟩)] w (.iface 81 (.agg #[.pointer (some ⟨r, 0, none⟩)])) := by
 obtain ⟨b0, b1, b2, b3, b4, b5, bz, bl⟩ := hb
 have c0 := h.bg.c0
 have c3 := h.dk.c3
 have h1 : (p.mode == 0) = false := by rcases hm with h | h <;> rw [h] <;> decide
 have h2 : (p.mode == 1) = false := by rcases hm with h | h <;> rw [h] <;> decide
 clear h hm
 go_enter func64, ntmps64
 go_wp2
 exact qV (.iface 81 (.agg #[.pointer (some ⟨r, 0, none⟩)])) (by simp [results, results64, go_sem]) rfl
theorem meth_normal_take (a : Addr) (w : World) : (method 418 77 (.agg #[.pointer (some a)]) "nib/modes.take").run Tryz.prog w = .ok (137, .agg #[.pointer (some a)]) w := by kernel_rfl
theorem meth_marking_take (a : Addr) (w : World) : (method 418 81 (.agg #[.pointer (some a)]) "nib/modes.take").run Tryz.prog w = .ok (309, .agg #[.pointer (some a)]) w := by kernel_rfl
theorem meth_normal_escape (a : Addr) (w : World) : (method 418 77 (.agg #[.pointer (some a)]) "nib/modes.escape").run Tryz.prog w = .ok (135, .pointer (some a)) w := by kernel_rfl
theorem meth_marking_escape (a : Addr) (w : World) : (method 418 81 (.agg #[.pointer (some a)]) "nib/modes.escape").run Tryz.prog w = .ok (135, .pointer (some a)) w := by kernel_rfl
theorem meth_insert_take (a : Addr) (w : World) : (method 418 80 (.agg #[.pointer (some a)]) "nib/modes.take").run Tryz.prog w = .ok (305, .agg #[.pointer (some a)]) w := by kernel_rfl
theorem meth_insert_escape (a : Addr) (w : World) : (method 418 80 (.agg #[.pointer (some a)]) "nib/modes.escape").run Tryz.prog w = .ok (304, .agg #[.pointer (some a)]) w := by kernel_rfl
end Go.Proofs.YtlendfhehhacpaaGreat
namespace Go.Proofs.YtlendfhehhacpaaGreat
open Go.RowKit Nib Tryz
theorem mToNormal (r d : Nat) (p : Pg) (w : World) (h : RdAt w r d p) :
  Calls Tryz.prog 136 #[.pointer (some ⟨d, 0, none⟩)] w fun e w' => e = .returned (.tuple #[]) ∧ RdAt w' r d { p with mode := 0, anchor := 0 } ∧ Upd [d] w w' := by
 have HF := (h.set_mode 0).set_anchor 0
 rw [show ((0 : Nat) : Int) = 0 from rfl] at HF
 obtain ⟨c0, c1, c2, c3, c4, c5, c6, c7, c8, c9, fz, lt⟩ := h.dk
 clear h c0 c1 c4 c5 c6 c7 c8 c9
 go_enter func136, ntmps136
 exact qt80
theorem mMark (r d : Nat) (p : Pg) (mode : Int) (w : World) (h : RdAt w r d p) :
  Calls Tryz.prog 150 #[.pointer (some ⟨d, 0, none⟩), .int .i64 mode] w fun e w' => e = .returned (.tuple #[]) ∧ RdAt w' r d { p with mode := mode, anchor := p.pl } ∧ Upd [d] w w' := by
 have HF := (h.set_mode mode).set_anchor p.pl
 obtain ⟨c0, c1, c2, c3, c4, c5, c6, c7, c8, c9, fz, lt⟩ := h.dk
 clear h c0 c4 c5 c6 c7 c8 c9
 go_enter func150, ntmps150
 exact qt80
theorem mMoveTo (r d : Nat) (p : Pg) (place : Int) (k : Nat) (w : World) (h : RdAt w r d p) (hs : p.t.size ≤ 1000) (e : place = k) (hk : k ≤ p.t.size) :
  Calls Tryz.prog 179 #[.pointer (some ⟨d, 0, none⟩), .int .i64 place] w fun e w' => e = .returned (.tuple #[]) ∧ RdAt w' r d { p with pl := clm p.t k } ∧ Upd [d] w w' := by
 subst e
 have HL : qH 195 #[.string p.t, .int .i64 k] (.agg #[.int .i64 (beg p.t k), .int .i64 (fin p.t k)]) := fun ww => tLine_any p.t k k ww hs rfl hk
 have hb1 := beg_le p.t k
 have hf1 := fin_le hk
 have HT : qH 202 #[.agg #[.int .i64 (beg p.t k), .int .i64 (fin p.t k)]] (.int .i64 (lst p.t k)) := by
  intro ww
  have := tLast_any (beg p.t k) (fin p.t k) ww qo
  refine this.mono ?_
  rintro e w' ⟨rfl, hw⟩
  refine ⟨ret_int ?_, hw⟩
  unfold lst
  split <;> omega
 have H := h
 have HS : Hid (∀ ww, RdAt ww r d p → RdAt (ww.setCell ⟨d, 1, none⟩ (.int .i64 (clm p.t k : Nat))) r d { p with pl := clm p.t k }) := fun ww hh => hh.set_pl _
 have hcl : clm p.t k = if lst p.t k < k then lst p.t k else k := rfl
 obtain ⟨c0, c1, c2, c3, c4, c5, c6, c7, c8, c9, fz, lt⟩ := h.dk
 clear c2 c3 c4 c5 c6 c7 c8 c9 h
 generalize beg p.t k = B at *
 generalize fin p.t k = F at *
 generalize lst p.t k = L at *
 generalize hp2 : ({ p with pl := clm p.t k } : Pg) = p2 at *
 clear hp2
 generalize clm p.t k = C at *
 have HC : Hid (C = if L < k then L else k) := hcl
 clear hcl
 go_enter func179, ntmps179
 go_wp2_with fail
 refine (HL.out _).mono ?_
 rintro e w1 ⟨rfl, h1⟩
 obtain ⟨hc1, hf1, hz1⟩ := qb h1
 try simp at hz1
 go_wp2_with fail
 refine (HT.out _).mono ?_
 rintro e w2 ⟨rfl, h2⟩
 obtain ⟨hc2, hf2, hz2⟩ := qb h2
 try simp at hz2
 have H2 := (H.below h1).below h2
 have d0 := H2.dk.c0
 have d1 := H2.dk.c1
 have dz := H2.dk.fz
 have dl := H2.dk.lt
 have HS2 := HS.out _ H2
 clear hc1 hc2 hf1 hf2 H2 c0 c1 fz
 by_cases hlk : L < k
 ·rw [HC.out, if_pos hlk] at HS2
  exact qt80
 ·rw [HC.out, if_neg hlk] at HS2
  exact qt80
end Go.Proofs.YtlendfhehhacpaaGreat
namespace Go.Proofs.YtlendfhehhacpaaGreat
open Go.RowKit Tryz
theorem Upd.cell {S : List Nat} {w w' : World} (h : Upd S w w') {b o : Nat} (hn : b ∉ S) (hl : b < w.heap.size) : w'.cell? ⟨b, o, none⟩ = w.cell? ⟨b, o, none⟩ := World.cell?_of_block (w := w) (h.block b hl hn)
theorem Upd.frozen {S : List Nat} {w w' : World} (h : Upd S w w') {b o : Nat} (hn : b ∉ S) (hl : b < w.heap.size) : w'.frozen? ⟨b, o, none⟩ = w.frozen? ⟨b, o, none⟩ := World.frozen?_of_block (w := w) (h.block b hl hn)
theorem Upd.was {S : List Nat} {w w' : World} (h : Upd S w w') {b o : Nat} {v : Value} (hc : w.cell? ⟨b, o, none⟩ = some v) (hn : b ∉ S) : w'.cell? ⟨b, o, none⟩ = some v :=
 (h.cell hn (World.block_lt_of_cell? w ⟨b, o, none⟩ hc)).trans hc
theorem Upd.lt {S : List Nat} {w w' : World} (h : Upd S w w') {b : Nat} (hl : b < w.heap.size) : b < w'.heap.size := Nat.lt_of_lt_of_le hl h.size
