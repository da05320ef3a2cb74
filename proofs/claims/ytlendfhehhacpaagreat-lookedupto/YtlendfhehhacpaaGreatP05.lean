/- Joined of the texts MemE, TextJ, ModesA, ModesD, ModesD2, ModesB. -/
import Derived.Test.YtlendfhehhacpaaGreatP04
import Derived.Laws.AppendOwn
import Derived.Laws.StructEq
import Derived.Test.YtlendfhehhacpaaGreatP02
set_option linter.unusedVariables false
set_option linter.unusedSimpArgs false
set_option maxRecDepth 100000
set_option maxHeartbeats 8000000
namespace Go.Proofs.YtlendfhehhacpaaGreat
open Go.RowKit
structure BdAt (w : World) (b r d : Nat) (tv : Value) (dg : ByteArray) : Prop where
  c0 : w.cell? ⟨b, 0, none⟩ = some (.pointer (some ⟨r, 0, none⟩))
  c1 : w.cell? ⟨b, 1, none⟩ = some tv
  c2 : w.cell? ⟨b, 2, none⟩ = some (.string dg)
  c3 : w.cell? ⟨b, 3, none⟩ = some (.pointer (some ⟨r, 0, none⟩))
  c4 : w.cell? ⟨b, 4, none⟩ = some (.pointer (some ⟨d, 0, none⟩))
  c5 : w.cell? ⟨b, 5, none⟩ = some (.pointer (some ⟨r, 0, none⟩))
  fz : ∀ o, w.frozen? ⟨b, o, none⟩ = false
  lt : b < w.heap.size
theorem BdAt.of_block {w w' : World} {b r d : Nat} {tv : Value} {dg : ByteArray} (h : BdAt w b r d tv dg) (hb : w'.heap[b]? = w.heap[b]?) (hz : w.heap.size ≤ w'.heap.size) : BdAt w' b r d tv dg := by
  have hc : ∀ o, w'.cell? ⟨b, o, none⟩ = w.cell? ⟨b, o, none⟩ := fun o => World.cell?_of_block (w := w) hb
  have hf : ∀ o, w'.frozen? ⟨b, o, none⟩ = w.frozen? ⟨b, o, none⟩ := fun o => World.frozen?_of_block (w := w) hb
  exact ⟨(hc _).trans h.c0, (hc _).trans h.c1, (hc _).trans h.c2, (hc _).trans h.c3, (hc _).trans h.c4, (hc _).trans h.c5, fun o => (hf o).trans (h.fz o), Nat.lt_of_lt_of_le h.lt hz⟩
theorem BdAt.below {w w' : World} {b r d : Nat} {tv : Value} {dg : ByteArray} (h : BdAt w b r d tv dg) (hb : Below w.heap.size w w') : BdAt w' b r d tv dg := h.of_block (hb.block b h.lt) hb.size
theorem BdAt.alloc {w : World} {b r d : Nat} {tv : Value} {dg : ByteArray} (h : BdAt w b r d tv dg) (o : Obj) : BdAt (w.alloc o) b r d tv dg := h.below ((Below.refl _ _).alloc (Nat.le_refl _) _)
theorem BdAt.drewN {w : World} {b r d : Nat} {tv : Value} {dg : ByteArray} (h : BdAt w b r d tv dg) (n : Nat) : BdAt (w.drewN n) b r d tv dg := h.below (below_drewN (Below.refl _ _) _)
theorem BdAt.drew {w : World} {b r d : Nat} {tv : Value} {dg : ByteArray} (h : BdAt w b r d tv dg) : BdAt w.drew b r d tv dg := h.below (Below.refl _ _).drew
theorem BdAt.upd {S : List Nat} {w w' : World} {b r d : Nat} {tv : Value} {dg : ByteArray} (h : BdAt w b r d tv dg) (hu : Upd S w w') (hn : b ∉ S) : BdAt w' b r d tv dg := h.of_block (hu.block b h.lt hn) hu.size
theorem BdAt.other {w : World} {b r d : Nat} {tv : Value} {dg : ByteArray} (h : BdAt w b r d tv dg) {q : Addr} (hp : b ≠ q.block) (u : Value) : BdAt (w.setCell q u) b r d tv dg := h.of_block (Below.heap_setCell _ _ _ _ hp) (by simp [World.setCell])
theorem BdAt.set_tv {w : World} {b r d : Nat} {tv : Value} {dg : ByteArray} (h : BdAt w b r d tv dg) (x : Value) : BdAt (w.setCell ⟨b, 1, none⟩ (x)) b r d x dg :=
  ⟨(cell_set_off (by decide)).trans h.c0, cell_set_same h.c1, (cell_set_off (by decide)).trans h.c2, (cell_set_off (by decide)).trans h.c3, (cell_set_off (by decide)).trans h.c4, (cell_set_off (by decide)).trans h.c5, fun o => frozen_set.trans (h.fz o), by simp [World.setCell]; exact h.lt⟩
theorem BdAt.set_dg {w : World} {b r d : Nat} {tv : Value} {dg : ByteArray} (h : BdAt w b r d tv dg) (x : ByteArray) : BdAt (w.setCell ⟨b, 2, none⟩ (.string x)) b r d tv x :=
  ⟨(cell_set_off (by decide)).trans h.c0, (cell_set_off (by decide)).trans h.c1, cell_set_same h.c2, (cell_set_off (by decide)).trans h.c3, (cell_set_off (by decide)).trans h.c4, (cell_set_off (by decide)).trans h.c5, fun o => frozen_set.trans (h.fz o), by simp [World.setCell]; exact h.lt⟩
theorem eqIn_int (d : Nat) (a b : Int) (w : World) : (Op.equalIn (d + 1) 3 (.int .i64 a) (.int .i64 b)).run Tryz.prog w = .ok (a == b) w := by
  simp [Op.equalIn, run_underlying Tryz.underlying3]
theorem eq_two_in (k : Nat) (a b c d : Int) (w : World) : (Op.equalIn (k + 2) 128 (.agg #[.int .i64 (a), .int .i64 (b)]) (.agg #[.int .i64 (c), .int .i64 (d)])).run Tryz.prog w = .ok ((a == c) && (b == d)) w := by
  have h := fun x y w => eqIn_int k x y w
  rw [show k + 2 = (k + 1) + 1 by omega]
  rw [Op.equalIn]
  simp only [Sem.run_bind, run_underlying Tryz.underlying128, Result.andThen_ok]
  simp [go_sem, part, h, Std.Legacy.Range.forIn_eq_forIn_range', List.range']
  by_cases h1 : a = c <;> by_cases h2 : b = d <;> simp [h1, h2]
theorem eq_two (a b c d : Int) (w : World) : (Op.equal 128 (.agg #[.int .i64 (a), .int .i64 (b)]) (.agg #[.int .i64 (c), .int .i64 (d)])).run Tryz.prog w = .ok ((a == c) && (b == d)) w := eq_two_in 9998 a b c d w
theorem neq_two (a b c d : Int) (w : World) : (binOp .neq 128 (.agg #[.int .i64 (a), .int .i64 (b)]) (.agg #[.int .i64 (c), .int .i64 (d)])).run Tryz.prog w = .ok (.bool (!((a == c) && (b == d)))) w := by
  have e : binOp .neq 128 (.agg #[.int .i64 (a), .int .i64 (b)]) (.agg #[.int .i64 (c), .int .i64 (d)]) = (do pure (.bool (!(← Op.equal 128 (.agg #[.int .i64 (a), .int .i64 (b)]) (.agg #[.int .i64 (c), .int .i64 (d)]))))) := rfl
  rw [e, Sem.run_bind, eq_two]
  rfl
theorem eql_two (a b c d : Int) (w : World) : (binOp .eql 128 (.agg #[.int .i64 (a), .int .i64 (b)]) (.agg #[.int .i64 (c), .int .i64 (d)])).run Tryz.prog w = .ok (.bool ((a == c) && (b == d))) w := by
  have e : binOp .eql 128 (.agg #[.int .i64 (a), .int .i64 (b)]) (.agg #[.int .i64 (c), .int .i64 (d)]) = (do pure (.bool (← Op.equal 128 (.agg #[.int .i64 (a), .int .i64 (b)]) (.agg #[.int .i64 (c), .int .i64 (d)])))) := rfl
  rw [e, Sem.run_bind, eq_two]
  rfl
theorem eqIn_u8 (d : Nat) (a b : Int) (w : World) : (Op.equalIn (d + 1) 5 (.int .u8 a) (.int .u8 b)).run Tryz.prog w = .ok (a == b) w := by
  simp [Op.equalIn, run_underlying Tryz.underlying5]
theorem eq_begun_in (k : Nat) (a b c d e : Int) (w : World) : (Op.equalIn (k + 2) 85 (.agg #[.int .u8 a, .int .i64 b, .int .u8 c, .int .i64 d, .int .u8 e]) (.agg #[.int .u8 0, .int .i64 0, .int .u8 0, .int .i64 0, .int .u8 0])).run Tryz.prog w = .ok ((a == 0) && (b == 0) && (c == 0) && (d == 0) && (e == 0)) w := by
  have h := fun x y w => eqIn_int k x y w
  have h' := fun x y w => eqIn_u8 k x y w
  rw [show k + 2 = (k + 1) + 1 by omega]
  rw [Op.equalIn]
  simp only [Sem.run_bind, run_underlying Tryz.underlying85, Result.andThen_ok]
  simp [go_sem, part, h, h', Std.Legacy.Range.forIn_eq_forIn_range', List.range']
  by_cases h1 : a = 0 <;> by_cases h2 : b = 0 <;> by_cases h3 : c = 0 <;> by_cases h4 : d = 0 <;> by_cases h5 : e = 0 <;> simp [h1, h2, h3, h4, h5]
theorem eq_begun (a b c d e : Int) (w : World) : (Op.equal 85 (.agg #[.int .u8 a, .int .i64 b, .int .u8 c, .int .i64 d, .int .u8 e]) (.agg #[.int .u8 0, .int .i64 0, .int .u8 0, .int .i64 0, .int .u8 0])).run Tryz.prog w = .ok ((a == 0) && (b == 0) && (c == 0) && (d == 0) && (e == 0)) w := eq_begun_in 9998 a b c d e w
theorem neq_begun (a b c d e : Int) (w : World) : (binOp .neq 85 (.agg #[.int .u8 a, .int .i64 b, .int .u8 c, .int .i64 d, .int .u8 e]) (.agg #[.int .u8 0, .int .i64 0, .int .u8 0, .int .i64 0, .int .u8 0])).run Tryz.prog w = .ok (.bool (!((a == 0) && (b == 0) && (c == 0) && (d == 0) && (e == 0)))) w := by
  have e : binOp .neq 85 (.agg #[.int .u8 a, .int .i64 b, .int .u8 c, .int .i64 d, .int .u8 e]) (.agg #[.int .u8 0, .int .i64 0, .int .u8 0, .int .i64 0, .int .u8 0]) = (do pure (.bool (!(← Op.equal 85 (.agg #[.int .u8 a, .int .i64 b, .int .u8 c, .int .i64 d, .int .u8 e]) (.agg #[.int .u8 0, .int .i64 0, .int .u8 0, .int .i64 0, .int .u8 0]))))) := rfl
  rw [e, Sem.run_bind, eq_begun]
  rfl
def waits (p : Pg) : Bool := !((p.reg == 0) && ((p.n : Int) == 0) && (p.verb == 0) && ((p.behind : Int) == 0) && (p.part == 0))
abbrev Pg.none' (p : Pg) : Pg := { p with reg := 0, n := 0, verb := 0, behind := 0, part := 0 }
theorem mWaiting (r d : Nat) (p : Pg) (w : World) (h : RdAt w r d p) :
    Calls Tryz.prog 39 #[.pointer (some ⟨r, 1, none⟩)] w fun e w' => e = .returned (.bool (waits p)) ∧ Below w.heap.size w w' := by
  obtain ⟨c0, c1, c2, c3, c4, c5, fz, lt⟩ := h.bg
  have hq := neq_begun p.reg p.n p.verb p.behind p.part
  have HW : Hid (waits p = !((p.reg == 0) && ((p.n : Int) == 0) && (p.verb == 0) && ((p.behind : Int) == 0) && (p.part == 0))) := rfl
  generalize waits p = y at *
  clear h
  have l1 : r < w.heap.size + 1 := by omega
  go_enter Tryz.func39, Tryz.ntmps39
  go_wp2
  refine bodyPost_ret (v := .bool (!((p.reg == 0) && ((p.n : Int) == 0) && (p.verb == 0) && ((p.behind : Int) == 0) && (p.part == 0)))) (by simp [results, Tryz.results39, go_sem]) rfl ⟨ret_bool (by rw [HW.out]), ?_⟩
  repeat (with_reducible first | exact Below.refl _ _ | refine b_s ?_ _ | refine b_a ?_ _ | refine Below.drew ?_ | refine below_drewN ?_ _)
theorem mForget (r d : Nat) (p : Pg) (w : World) (h : RdAt w r d p) :
    Calls Tryz.prog 65 #[.pointer (some ⟨r, 1, none⟩)] w fun e w' => e = .returned (.tuple #[]) ∧ RdAt w' r d p.none' ∧ Upd [r] w w' := by
  have HF := ((((h.set_reg 0).set_n 0).set_verb 0).set_behind 0).set_part 0
  rw [show ((0 : Nat) : Int) = 0 from rfl] at HF
  obtain ⟨c0, c1, c2, c3, c4, c5, fz, lt⟩ := h.bg
  clear h
  go_enter Tryz.func65, Tryz.ntmps65
  go_wp2
  go_end0
  refine ⟨rfl, ?_, ?_⟩
  · repeat (with_reducible first | exact HF | refine r_o ?_ _ | refine RdAt.alloc ?_ _ | refine RdAt.drewN ?_ _ | refine RdAt.drew ?_)
  · repeat (with_reducible first | exact Upd.refl _ _ | assumption | refine u_s ?_ _ | refine Upd.alloc ?_ _ | refine Upd.drewN ?_ _ | refine Upd.drew ?_)
theorem mAwait (r d : Nat) (p : Pg) (part : Int) (w : World) (h : RdAt w r d p) :
    Calls Tryz.prog 142 #[.pointer (some ⟨r, 1, none⟩), .int .u8 part] w fun e w' => e = .returned (.int .i64 0) ∧ RdAt w' r d { p with part := part } ∧ Upd [r] w w' := by
  have HF := h.set_part part
  obtain ⟨c0, c1, c2, c3, c4, c5, fz, lt⟩ := h.bg
  clear h
  go_enter Tryz.func142, Tryz.ntmps142
  go_wp2
  go_ret
  refine ⟨rfl, ?_, ?_⟩
  · repeat (with_reducible first | exact HF | refine r_o ?_ _ | refine RdAt.alloc ?_ _ | refine RdAt.drewN ?_ _ | refine RdAt.drew ?_)
  · repeat (with_reducible first | exact Upd.refl _ _ | assumption | refine u_s ?_ _ | refine Upd.alloc ?_ _ | refine Upd.drewN ?_ _ | refine Upd.drew ?_)
theorem mOn_normal (b r d : Nat) (tv : Value) (dg : ByteArray) (p : Pg) (w : World) (hb : BdAt w b r d tv dg) (h : RdAt w r d p) (hm : p.mode = 0) :
    Calls Tryz.prog 64 #[.pointer (some ⟨b, 0, none⟩)] w fun e w' => e = .returned (.iface 77 (.agg #[.pointer (some ⟨r, 0, none⟩)])) ∧ Below w.heap.size w w' := by
  obtain ⟨b0, b1, b2, b3, b4, b5, bz, bl⟩ := hb
  have c0 := h.bg.c0
  have c3 := h.dk.c3
  rw [hm] at c3
  clear h
  go_enter Tryz.func64, Tryz.ntmps64
  go_wp2
  refine bodyPost_ret (v := .iface 77 (.agg #[.pointer (some ⟨r, 0, none⟩)])) (by simp [results, Tryz.results64, go_sem]) rfl ⟨rfl, ?_⟩
  repeat (with_reducible first | exact Below.refl _ _ | refine b_s ?_ _ | refine b_a ?_ _ | refine Below.drew ?_ | refine below_drewN ?_ _)
theorem mOn_marking (b r d : Nat) (tv : Value) (dg : ByteArray) (p : Pg) (w : World) (hb : BdAt w b r d tv dg) (h : RdAt w r d p) (hm : p.mode = 2 ∨ p.mode = 3) :
    Calls Tryz.prog 64 #[.pointer (some ⟨b, 0, none⟩)] w fun e w' => e = .returned (.iface 81 (.agg #[.pointer (some ⟨r, 0, none⟩)])) ∧ Below w.heap.size w w' := by
  obtain ⟨b0, b1, b2, b3, b4, b5, bz, bl⟩ := hb
  have c0 := h.bg.c0
  have c3 := h.dk.c3
  have h1 : (p.mode == 0) = false := by rcases hm with h | h <;> rw [h] <;> decide
  have h2 : (p.mode == 1) = false := by rcases hm with h | h <;> rw [h] <;> decide
  clear h hm
  go_enter Tryz.func64, Tryz.ntmps64
  go_wp2
  refine bodyPost_ret (v := .iface 81 (.agg #[.pointer (some ⟨r, 0, none⟩)])) (by simp [results, Tryz.results64, go_sem]) rfl ⟨rfl, ?_⟩
  repeat (with_reducible first | exact Below.refl _ _ | refine b_s ?_ _ | refine b_a ?_ _ | refine Below.drew ?_ | refine below_drewN ?_ _)
theorem meth_normal_take (a : Addr) (w : World) : (method 418 77 (.agg #[.pointer (some a)]) "nib/modes.take").run Tryz.prog w = .ok (137, .agg #[.pointer (some a)]) w := by kernel_rfl
theorem meth_marking_take (a : Addr) (w : World) : (method 418 81 (.agg #[.pointer (some a)]) "nib/modes.take").run Tryz.prog w = .ok (309, .agg #[.pointer (some a)]) w := by kernel_rfl
theorem meth_normal_escape (a : Addr) (w : World) : (method 418 77 (.agg #[.pointer (some a)]) "nib/modes.escape").run Tryz.prog w = .ok (135, .pointer (some a)) w := by kernel_rfl
theorem meth_marking_escape (a : Addr) (w : World) : (method 418 81 (.agg #[.pointer (some a)]) "nib/modes.escape").run Tryz.prog w = .ok (135, .pointer (some a)) w := by kernel_rfl
theorem mDigit_no (r d : Nat) (p : Pg) (key : Int) (w : World) (h : RdAt w r d p) (hv : p.verb = 0) (hd : Nib.isD p.n key = false) :
    Calls Tryz.prog 139 #[.pointer (some ⟨r, 1, none⟩), .int .u8 key] w fun e w' => e = .returned (.bool false) ∧ Below w.heap.size w w' := by
  obtain ⟨c0, c1, c2, c3, c4, c5, fz, lt⟩ := h.bg
  clear h
  rw [hv] at c3
  clear hv
  simp only [Nib.isD, decide_eq_false_iff_not] at hd
  have l1 : r < w.heap.size + 1 := by omega
  have l2 : r < w.heap.size + 1 + 1 := by omega
  by_cases h1 : key < 48
  · clear hd
    go_enter Tryz.func139, Tryz.ntmps139
    go_wp2
    refine bodyPost_ret (v := .bool false) (by simp [results, Tryz.results139, go_sem]) rfl ⟨rfl, ?_⟩
    repeat (with_reducible first | exact Below.refl _ _ | refine b_s ?_ _ | refine b_a ?_ _ | refine Below.drew ?_ | refine below_drewN ?_ _)
  · by_cases h2 : 57 < key
    · clear hd
      go_enter Tryz.func139, Tryz.ntmps139
      go_wp2
      refine bodyPost_ret (v := .bool false) (by simp [results, Tryz.results139, go_sem]) rfl ⟨rfl, ?_⟩
      repeat (with_reducible first | exact Below.refl _ _ | refine b_s ?_ _ | refine b_a ?_ _ | refine Below.drew ?_ | refine below_drewN ?_ _)
    · have h3 : key = 48 := by omega
      have h4 : p.n = 0 := by omega
      subst h3
      rw [h4] at c2
      clear hd
      go_enter Tryz.func139, Tryz.ntmps139
      go_wp2
      refine bodyPost_ret (v := .bool false) (by simp [results, Tryz.results139, go_sem]) rfl ⟨rfl, ?_⟩
      repeat (with_reducible first | exact Below.refl _ _ | refine b_s ?_ _ | refine b_a ?_ _ | refine Below.drew ?_ | refine below_drewN ?_ _)
theorem mDigit_yes (r d : Nat) (p : Pg) (key : Int) (w : World) (h : RdAt w r d p) (hv : p.verb = 0) (hn : p.n ≤ 99) (hd : Nib.isD p.n key = true) :
    Calls Tryz.prog 139 #[.pointer (some ⟨r, 1, none⟩), .int .u8 key] w fun e w' => e = .returned (.bool true) ∧ RdAt w' r d { p with n := Nib.nextN p.n key } ∧ Upd [r] w w' := by
  have HS := h.set_n (Nib.nextN p.n key)
  obtain ⟨c0, c1, c2, c3, c4, c5, fz, lt⟩ := h.bg
  have H := h
  clear h
  rw [hv] at c3
  clear hv
  simp only [Nib.isD, decide_eq_true_eq] at hd
  have l1 : r < w.heap.size + 1 := by omega
  have l2 : r < w.heap.size + 1 + 1 := by omega
  have h1 : ¬ key < 48 := by omega
  have h2 : ¬ 57 < key := by omega
  have hN : Nib.nextN p.n key = if 99 < p.n * 10 + (key - 48).toNat then 99 else p.n * 10 + (key - 48).toNat := rfl
  have h5 : ((key == 48) = false) ∨ ((key == 48) = true ∧ (((p.n : Nat) : Int) == 0) = false) := by
    by_cases e : key = 48
    · right; exact ⟨by simp [e], by simp; omega⟩
    · left; simp [e]
  by_cases h3 : 99 < (p.n : Int) * 10 + (key - 48)
  · have HS2 : Hid (RdAt (w.setCell ⟨r, 2, none⟩ (.int .i64 99)) r d { p with n := Nib.nextN p.n key }) := by
      rw [hN, if_pos (by omega)] at HS
      rw [hN, if_pos (by omega)]
      exact HS
    generalize Nib.nextN p.n key = NN at *
    clear hN HS hd
    rcases h5 with h5 | ⟨h5, h6⟩
    · go_enter Tryz.func139, Tryz.ntmps139
      go_wp2
      all_goals
        refine bodyPost_ret (v := .bool true) (by simp [results, Tryz.results139, go_sem]) rfl ⟨rfl, ?_, ?_⟩
        · repeat (with_reducible first | exact HS2.out | refine r_o ?_ _ | refine RdAt.alloc ?_ _ | refine RdAt.drewN ?_ _ | refine RdAt.drew ?_)
        · repeat (with_reducible first | exact Upd.refl _ _ | assumption | refine u_s ?_ _ | refine Upd.alloc ?_ _ | refine Upd.drewN ?_ _ | refine Upd.drew ?_)
    · go_enter Tryz.func139, Tryz.ntmps139
      go_wp2
      all_goals
        refine bodyPost_ret (v := .bool true) (by simp [results, Tryz.results139, go_sem]) rfl ⟨rfl, ?_, ?_⟩
        · repeat (with_reducible first | exact HS2.out | refine r_o ?_ _ | refine RdAt.alloc ?_ _ | refine RdAt.drewN ?_ _ | refine RdAt.drew ?_)
        · repeat (with_reducible first | exact Upd.refl _ _ | assumption | refine u_s ?_ _ | refine Upd.alloc ?_ _ | refine Upd.drewN ?_ _ | refine Upd.drew ?_)
  · have HS2 : Hid (RdAt (w.setCell ⟨r, 2, none⟩ (.int .i64 ((p.n : Int) * 10 + (key - 48)))) r d { p with n := Nib.nextN p.n key }) := by
      rw [hN, if_neg (by omega)] at HS
      rw [hN, if_neg (by omega)]
      have e : ((p.n * 10 + (key - 48).toNat : Nat) : Int) = (p.n : Int) * 10 + (key - 48) := by omega
      rw [e] at HS
      exact HS
    generalize Nib.nextN p.n key = NN at *
    clear hN HS hd
    rcases h5 with h5 | ⟨h5, h6⟩
    · go_enter Tryz.func139, Tryz.ntmps139
      go_wp2
      all_goals
        refine bodyPost_ret (v := .bool true) (by simp [results, Tryz.results139, go_sem]) rfl ⟨rfl, ?_, ?_⟩
        · repeat (with_reducible first | exact HS2.out | refine r_o ?_ _ | refine RdAt.alloc ?_ _ | refine RdAt.drewN ?_ _ | refine RdAt.drew ?_)
        · repeat (with_reducible first | exact Upd.refl _ _ | assumption | refine u_s ?_ _ | refine Upd.alloc ?_ _ | refine Upd.drewN ?_ _ | refine Upd.drew ?_)
    · go_enter Tryz.func139, Tryz.ntmps139
      go_wp2
      all_goals
        refine bodyPost_ret (v := .bool true) (by simp [results, Tryz.results139, go_sem]) rfl ⟨rfl, ?_, ?_⟩
        · repeat (with_reducible first | exact HS2.out | refine r_o ?_ _ | refine RdAt.alloc ?_ _ | refine RdAt.drewN ?_ _ | refine RdAt.drew ?_)
        · repeat (with_reducible first | exact Upd.refl _ _ | assumption | refine u_s ?_ _ | refine Upd.alloc ?_ _ | refine Upd.drewN ?_ _ | refine Upd.drew ?_)
def cnt (p : Pg) : Nat := if p.n = 0 ∨ p.behind = 0 then p.n + p.behind else min (p.n * p.behind) 99
theorem mCount (r d : Nat) (p : Pg) (w : World) (h : RdAt w r d p) (hn : p.n ≤ 99) (hb : p.behind ≤ 99) :
    Calls Tryz.prog 200 #[.pointer (some ⟨r, 1, none⟩)] w fun e w' => e = .returned (.int .i64 (cnt p)) ∧ Below w.heap.size w w' := by
  obtain ⟨c0, c1, c2, c3, c4, c5, fz, lt⟩ := h.bg
  clear h
  have HC : Hid (cnt p = if p.n = 0 ∨ p.behind = 0 then p.n + p.behind else min (p.n * p.behind) 99) := rfl
  generalize cnt p = y at *
  by_cases h1 : p.n = 0
  · have HD : Hid ((y : Int) = (p.behind : Int)) := by rw [Hid, HC.out, if_pos (Or.inl h1)]; omega
    rw [h1] at c2
    have hw : IntKind.i64.wrap ((p.behind : Nat) : Int) = ((p.behind : Nat) : Int) := by rw [IntKind.wrap_i64]; omega
    clear HC h1
    go_enter Tryz.func200, Tryz.ntmps200
    go_wp2_with fail
    go_region_held3 (fun ww => ww.cell? ⟨r, 2, none⟩ = some (.int .i64 0) ∧ ww.cell? ⟨r, 4, none⟩ = some (.int .i64 (p.behind : Nat))) ((refine ⟨?_, ?_⟩ <;> go_simp)) (fail)
    go_wp2
    all_goals
      refine bodyPost_ret (v := .int .i64 (p.behind : Nat)) (by simp [results, Tryz.results200, go_sem]) rfl ⟨by rw [HD.out], ?_⟩
      repeat (with_reducible first | exact Below.refl _ _ | refine b_s ?_ _ | refine b_a ?_ _ | refine Below.drew ?_ | refine below_drewN ?_ _)
  · by_cases h2 : p.behind = 0
    · have HD : Hid ((y : Int) = (p.n : Int)) := by rw [Hid, HC.out, if_pos (Or.inr h2)]; omega
      have h1' : (((p.n : Nat) : Int) == 0) = false := by simp; omega
      rw [h2] at c4
      have hw : IntKind.i64.wrap ((p.n : Nat) : Int) = ((p.n : Nat) : Int) := by rw [IntKind.wrap_i64]; omega
      clear HC h1 h2
      go_enter Tryz.func200, Tryz.ntmps200
      go_wp2_with fail
      go_region_held3 (fun ww => ww.cell? ⟨r, 2, none⟩ = some (.int .i64 (p.n : Nat)) ∧ ww.cell? ⟨r, 4, none⟩ = some (.int .i64 0)) ((refine ⟨?_, ?_⟩ <;> go_simp)) (fail)
      go_wp2
      all_goals
        refine bodyPost_ret (v := .int .i64 (p.n : Nat)) (by simp [results, Tryz.results200, go_sem]) rfl ⟨by rw [HD.out], ?_⟩
        repeat (with_reducible first | exact Below.refl _ _ | refine b_s ?_ _ | refine b_a ?_ _ | refine Below.drew ?_ | refine below_drewN ?_ _)
    · have hm : p.n * p.behind ≤ 99 * 99 := Nat.mul_le_mul hn hb
      have hm2 : ((p.n * p.behind : Nat) : Int) = (p.n : Int) * (p.behind : Int) := by simp
      have h1' : (((p.n : Nat) : Int) == 0) = false := by simp; omega
      have h2' : (((p.behind : Nat) : Int) == 0) = false := by simp; omega
      by_cases h3 : 99 < p.n * p.behind
      · have HD : Hid ((y : Int) = 99) := by rw [Hid, HC.out, if_neg (by omega)]; omega
        have h3' : 99 < (p.n : Int) * (p.behind : Int) := by omega
        have hw : IntKind.i64.wrap ((p.n : Int) * (p.behind : Int)) = (p.n : Int) * (p.behind : Int) := by rw [IntKind.wrap_i64]; omega
        clear HC h1 h2 hm hm2 h3
        go_enter Tryz.func200, Tryz.ntmps200
        go_wp2_with fail
        go_region_held3 (fun ww => ww.cell? ⟨r, 2, none⟩ = some (.int .i64 (p.n : Nat)) ∧ ww.cell? ⟨r, 4, none⟩ = some (.int .i64 (p.behind : Nat))) ((refine ⟨?_, ?_⟩ <;> go_simp)) (fail)
        go_wp2
        all_goals
          refine bodyPost_ret (v := .int .i64 99) (by simp [results, Tryz.results200, go_sem]) rfl ⟨by rw [HD.out], ?_⟩
          repeat (with_reducible first | exact Below.refl _ _ | refine b_s ?_ _ | refine b_a ?_ _ | refine Below.drew ?_ | refine below_drewN ?_ _)
      · have HD : Hid ((y : Int) = (p.n : Int) * (p.behind : Int)) := by rw [Hid, HC.out, if_neg (by omega)]; omega
        have h3' : ¬ 99 < (p.n : Int) * (p.behind : Int) := by omega
        have hw : IntKind.i64.wrap ((p.n : Int) * (p.behind : Int)) = (p.n : Int) * (p.behind : Int) := by rw [IntKind.wrap_i64]; omega
        clear HC h1 h2 hm hm2 h3
        go_enter Tryz.func200, Tryz.ntmps200
        go_wp2_with fail
        go_region_held3 (fun ww => ww.cell? ⟨r, 2, none⟩ = some (.int .i64 (p.n : Nat)) ∧ ww.cell? ⟨r, 4, none⟩ = some (.int .i64 (p.behind : Nat))) ((refine ⟨?_, ?_⟩ <;> go_simp)) (fail)
        go_wp2
        all_goals
          refine bodyPost_ret (v := .int .i64 ((p.n : Int) * (p.behind : Int))) (by simp [results, Tryz.results200, go_sem]) rfl ⟨by rw [HD.out], ?_⟩
          repeat (with_reducible first | exact Below.refl _ _ | refine b_s ?_ _ | refine b_a ?_ _ | refine Below.drew ?_ | refine below_drewN ?_ _)
end Go.Proofs.YtlendfhehhacpaaGreat
