/- Joined of the texts TextJ, ModesA, ModesD, ModesD2, ModesB, WalkA. -/
import Derived.Test.YtlendfhehhacpaaGreatP04
import Derived.Laws.StructEq
import Derived.Test.YtlendfhehhacpaaGreatP02
import Derived.Test.YtlendfhehhacpaaGreatP01
set_option linter.unusedVariables false
set_option linter.unusedSimpArgs false
set_option maxRecDepth 100000
set_option maxHeartbeats 8000000
namespace Go.Proofs.YtlendfhehhacpaaGreat
open Go.RowKit
theorem eqIn_int (d : Nat) (a b : Int) (w : World) : (Op.equalIn (d + 1) 3 (.int .i64 a) (.int .i64 b)).run Tryz.prog w = .ok (a == b) w := by
  simp [Op.equalIn, run_underlying Tryz.underlying3]
theorem eqIn_u8 (d : Nat) (a b : Int) (w : World) : (Op.equalIn (d + 1) 5 (.int .u8 a) (.int .u8 b)).run Tryz.prog w = .ok (a == b) w := by
  simp [Op.equalIn, run_underlying Tryz.underlying5]
theorem eq_begun_in (k : Nat) (a b c d e : Int) (w : World) : (Op.equalIn (k + 2) 85 (.agg #[.int .u8 a, .int .i64 b, .int .u8 c, .int .i64 d, .int .u8 e]) (.agg #[.int .u8 0, .int .i64 0, .int .u8 0, .int .i64 0, .int .u8 0])).run Tryz.prog w = .ok ((a == 0) && (b == 0) && (c == 0) && (d == 0) && (e == 0)) w := by
  have h := fun x y w => eqIn_int k x y w
  have h' := fun x y w => eqIn_u8 k x y w
  rw [show k + 2 = (k + 1) + 1 by omega]
  rw [Op.equalIn]
  simp only [Sem.run_bind, run_underlying Tryz.underlying85, Result.andThen_ok]
  simp [go_sem, part, h, h', Std.Legacy.Range.forIn_eq_forIn_range', List.range']
  by_cases h1 : a = 0 <;> by_cases h2 : b = 0 <;> by_cases h3 : c = 0 <;> by_cases h4 : d = 0 <;> by_cases h5 : e = 0 <;> simp [h1, h2, h3, h4, h5]
theorem eq_begun (a b c d e : Int) (w : World) : (Op.equal 85 (.agg #[.int .u8 a, .int .i64 b, .int .u8 c, .int .i64 d, .int .u8 e]) (.agg #[.int .u8 0, .int .i64 0, .int .u8 0, .int .i64 0, .int .u8 0])).run Tryz.prog w = .ok ((a == 0) && (b == 0) && (c == 0) && (d == 0) && (e == 0)) w := eq_begun_in 9998 a b c d e w
theorem neq_begun (a b c d e : Int) (w : World) : (binOp .neq 85 (.agg #[.int .u8 a, .int .i64 b, .int .u8 c, .int .i64 d, .int .u8 e]) (.agg #[.int .u8 0, .int .i64 0, .int .u8 0, .int .i64 0, .int .u8 0])).run Tryz.prog w = .ok (.bool (!((a == 0) && (b == 0) && (c == 0) && (d == 0) && (e == 0)))) w := by
  have e : binOp .neq 85 (.agg #[.int .u8 a, .int .i64 b, .int .u8 c, .int .i64 d, .int .u8 e]) (.agg #[.int .u8 0, .int .i64 0, .int .u8 0, .int .i64 0, .int .u8 0]) = (do pure (.bool (!(← Op.equal 85 (.agg #[.int .u8 a, .int .i64 b, .int .u8 c, .int .i64 d, .int .u8 e]) (.agg #[.int .u8 0, .int .i64 0, .int .u8 0, .int .i64 0, .int .u8 0]))))) := rfl
  rw [e, Sem.run_bind, eq_begun]
  rfl
def waits (p : Pg) : Bool := !((p.reg == 0) && ((p.n : Int) == 0) && (p.verb == 0) && ((p.behind : Int) == 0) && (p.part == 0))
abbrev Pg.none' (p : Pg) : Pg := { p with reg := 0, n := 0, verb := 0, behind := 0, part := 0 }
theorem mWaiting (r d : Nat) (p : Pg) (w : World) (h : RdAt w r d p) :
    Calls Tryz.prog 39 #[.pointer (some ⟨r, 1, none⟩)] w fun e w' => e = .returned (.bool (waits p)) ∧ Below w.heap.size w w' := by
  obtain ⟨c0, c1, c2, c3, c4, c5, fz, lt⟩ := h.bg
  have hq := neq_begun p.reg p.n p.verb p.behind p.part
  have HW : Hid (waits p = !((p.reg == 0) && ((p.n : Int) == 0) && (p.verb == 0) && ((p.behind : Int) == 0) && (p.part == 0))) := rfl
  generalize waits p = y at *
  clear h
  have l1 : r < w.heap.size + 1 := by omega
  go_enter Tryz.func39, Tryz.ntmps39
  go_wp2
  refine bodyPost_ret (v := .bool (!((p.reg == 0) && ((p.n : Int) == 0) && (p.verb == 0) && ((p.behind : Int) == 0) && (p.part == 0)))) (by simp [results, Tryz.results39, go_sem]) rfl ⟨ret_bool (by rw [HW.out]), ?_⟩
  repeat (with_reducible first | exact Below.refl _ _ | refine b_s ?_ _ | refine b_a ?_ _ | refine Below.drew ?_ | refine below_drewN ?_ _)
theorem mForget (r d : Nat) (p : Pg) (w : World) (h : RdAt w r d p) :
    Calls Tryz.prog 65 #[.pointer (some ⟨r, 1, none⟩)] w fun e w' => e = .returned (.tuple #[]) ∧ RdAt w' r d p.none' ∧ Upd [r] w w' := by
  have HF := ((((h.set_reg 0).set_n 0).set_verb 0).set_behind 0).set_part 0
  rw [show ((0 : Nat) : Int) = 0 from rfl] at HF
  obtain ⟨c0, c1, c2, c3, c4, c5, fz, lt⟩ := h.bg
  clear h
  go_enter Tryz.func65, Tryz.ntmps65
  go_wp2
  go_end0
  refine ⟨rfl, ?_, ?_⟩
  · repeat (with_reducible first | exact HF | refine r_o ?_ _ | refine RdAt.alloc ?_ _ | refine RdAt.drewN ?_ _ | refine RdAt.drew ?_)
  · repeat (with_reducible first | exact Upd.refl _ _ | assumption | refine u_s ?_ _ | refine Upd.alloc ?_ _ | refine Upd.drewN ?_ _ | refine Upd.drew ?_)
theorem mAwait (r d : Nat) (p : Pg) (part : Int) (w : World) (h : RdAt w r d p) :
    Calls Tryz.prog 142 #[.pointer (some ⟨r, 1, none⟩), .int .u8 part] w fun e w' => e = .returned (.int .i64 0) ∧ RdAt w' r d { p with part := part } ∧ Upd [r] w w' := by
  have HF := h.set_part part
  obtain ⟨c0, c1, c2, c3, c4, c5, fz, lt⟩ := h.bg
  clear h
  go_enter Tryz.func142, Tryz.ntmps142
  go_wp2
  go_ret
  refine ⟨rfl, ?_, ?_⟩
  · repeat (with_reducible first | exact HF | refine r_o ?_ _ | refine RdAt.alloc ?_ _ | refine RdAt.drewN ?_ _ | refine RdAt.drew ?_)
  · repeat (with_reducible first | exact Upd.refl _ _ | assumption | refine u_s ?_ _ | refine Upd.alloc ?_ _ | refine Upd.drewN ?_ _ | refine Upd.drew ?_)
theorem mOn_normal (b r d : Nat) (tv : Value) (dg : ByteArray) (p : Pg) (w : World) (hb : BdAt w b r d tv dg) (h : RdAt w r d p) (hm : p.mode = 0) :
    Calls Tryz.prog 64 #[.pointer (some ⟨b, 0, none⟩)] w fun e w' => e = .returned (.iface 77 (.agg #[.pointer (some ⟨r, 0, none⟩)])) ∧ Below w.heap.size w w' := by
  obtain ⟨b0, b1, b2, b3, b4, b5, bz, bl⟩ := hb
  have c0 := h.bg.c0
  have c3 := h.dk.c3
  rw [hm] at c3
  clear h
  go_enter Tryz.func64, Tryz.ntmps64
  go_wp2
  refine bodyPost_ret (v := .iface 77 (.agg #[.pointer (some ⟨r, 0, none⟩)])) (by simp [results, Tryz.results64, go_sem]) rfl ⟨rfl, ?_⟩
  repeat (with_reducible first | exact Below.refl _ _ | refine b_s ?_ _ | refine b_a ?_ _ | refine Below.drew ?_ | refine below_drewN ?_ _)
theorem mOn_marking (b r d : Nat) (tv : Value) (dg : ByteArray) (p : Pg) (w : World) (hb : BdAt w b r d tv dg) (h : RdAt w r d p) (hm : p.mode = 2 ∨ p.mode = 3) :
    Calls Tryz.prog 64 #[.pointer (some ⟨b, 0, none⟩)] w fun e w' => e = .returned (.iface 81 (.agg #[.pointer (some ⟨r, 0, none⟩)])) ∧ Below w.heap.size w w' := by
  obtain ⟨b0, b1, b2, b3, b4, b5, bz, bl⟩ := hb
  have c0 := h.bg.c0
  have c3 := h.dk.c3
  have h1 : (p.mode == 0) = false := by rcases hm with h | h <;> rw [h] <;> decide
  have h2 : (p.mode == 1) = false := by rcases hm with h | h <;> rw [h] <;> decide
  clear h hm
  go_enter Tryz.func64, Tryz.ntmps64
  go_wp2
  refine bodyPost_ret (v := .iface 81 (.agg #[.pointer (some ⟨r, 0, none⟩)])) (by simp [results, Tryz.results64, go_sem]) rfl ⟨rfl, ?_⟩
  repeat (with_reducible first | exact Below.refl _ _ | refine b_s ?_ _ | refine b_a ?_ _ | refine Below.drew ?_ | refine below_drewN ?_ _)
theorem meth_normal_take (a : Addr) (w : World) : (method 418 77 (.agg #[.pointer (some a)]) "nib/modes.take").run Tryz.prog w = .ok (137, .agg #[.pointer (some a)]) w := by kernel_rfl
theorem meth_marking_take (a : Addr) (w : World) : (method 418 81 (.agg #[.pointer (some a)]) "nib/modes.take").run Tryz.prog w = .ok (309, .agg #[.pointer (some a)]) w := by kernel_rfl
theorem meth_normal_escape (a : Addr) (w : World) : (method 418 77 (.agg #[.pointer (some a)]) "nib/modes.escape").run Tryz.prog w = .ok (135, .pointer (some a)) w := by kernel_rfl
theorem meth_marking_escape (a : Addr) (w : World) : (method 418 81 (.agg #[.pointer (some a)]) "nib/modes.escape").run Tryz.prog w = .ok (135, .pointer (some a)) w := by kernel_rfl
theorem mDigit_no (r d : Nat) (p : Pg) (key : Int) (w : World) (h : RdAt w r d p) (hv : p.verb = 0) (hd : Nib.isD p.n key = false) :
    Calls Tryz.prog 139 #[.pointer (some ⟨r, 1, none⟩), .int .u8 key] w fun e w' => e = .returned (.bool false) ∧ Below w.heap.size w w' := by
  obtain ⟨c0, c1, c2, c3, c4, c5, fz, lt⟩ := h.bg
  clear h
  rw [hv] at c3
  clear hv
  simp only [Nib.isD, decide_eq_false_iff_not] at hd
  have l1 : r < w.heap.size + 1 := by omega
  have l2 : r < w.heap.size + 1 + 1 := by omega
  by_cases h1 : key < 48
  · clear hd
    go_enter Tryz.func139, Tryz.ntmps139
    go_wp2
    refine bodyPost_ret (v := .bool false) (by simp [results, Tryz.results139, go_sem]) rfl ⟨rfl, ?_⟩
    repeat (with_reducible first | exact Below.refl _ _ | refine b_s ?_ _ | refine b_a ?_ _ | refine Below.drew ?_ | refine below_drewN ?_ _)
  · by_cases h2 : 57 < key
    · clear hd
      go_enter Tryz.func139, Tryz.ntmps139
      go_wp2
      refine bodyPost_ret (v := .bool false) (by simp [results, Tryz.results139, go_sem]) rfl ⟨rfl, ?_⟩
      repeat (with_reducible first | exact Below.refl _ _ | refine b_s ?_ _ | refine b_a ?_ _ | refine Below.drew ?_ | refine below_drewN ?_ _)
    · have h3 : key = 48 := by omega
      have h4 : p.n = 0 := by omega
      subst h3
      rw [h4] at c2
      clear hd
      go_enter Tryz.func139, Tryz.ntmps139
      go_wp2
      refine bodyPost_ret (v := .bool false) (by simp [results, Tryz.results139, go_sem]) rfl ⟨rfl, ?_⟩
      repeat (with_reducible first | exact Below.refl _ _ | refine b_s ?_ _ | refine b_a ?_ _ | refine Below.drew ?_ | refine below_drewN ?_ _)
theorem mDigit_yes (r d : Nat) (p : Pg) (key : Int) (w : World) (h : RdAt w r d p) (hv : p.verb = 0) (hn : p.n ≤ 99) (hd : Nib.isD p.n key = true) :
    Calls Tryz.prog 139 #[.pointer (some ⟨r, 1, none⟩), .int .u8 key] w fun e w' => e = .returned (.bool true) ∧ RdAt w' r d { p with n := Nib.nextN p.n key } ∧ Upd [r] w w' := by
  have HS := h.set_n (Nib.nextN p.n key)
  obtain ⟨c0, c1, c2, c3, c4, c5, fz, lt⟩ := h.bg
  have H := h
  clear h
  rw [hv] at c3
  clear hv
  simp only [Nib.isD, decide_eq_true_eq] at hd
  have l1 : r < w.heap.size + 1 := by omega
  have l2 : r < w.heap.size + 1 + 1 := by omega
  have h1 : ¬ key < 48 := by omega
  have h2 : ¬ 57 < key := by omega
  have hN : Nib.nextN p.n key = if 99 < p.n * 10 + (key - 48).toNat then 99 else p.n * 10 + (key - 48).toNat := rfl
  have h5 : ((key == 48) = false) ∨ ((key == 48) = true ∧ (((p.n : Nat) : Int) == 0) = false) := by
    by_cases e : key = 48
    · right; exact ⟨by simp [e], by simp; omega⟩
    · left; simp [e]
  by_cases h3 : 99 < (p.n : Int) * 10 + (key - 48)
  · have HS2 : Hid (RdAt (w.setCell ⟨r, 2, none⟩ (.int .i64 99)) r d { p with n := Nib.nextN p.n key }) := by
      rw [hN, if_pos (by omega)] at HS
      rw [hN, if_pos (by omega)]
      exact HS
    generalize Nib.nextN p.n key = NN at *
    clear hN HS hd
    rcases h5 with h5 | ⟨h5, h6⟩
    · go_enter Tryz.func139, Tryz.ntmps139
      go_wp2
      all_goals
        refine bodyPost_ret (v := .bool true) (by simp [results, Tryz.results139, go_sem]) rfl ⟨rfl, ?_, ?_⟩
        · repeat (with_reducible first | exact HS2.out | refine r_o ?_ _ | refine RdAt.alloc ?_ _ | refine RdAt.drewN ?_ _ | refine RdAt.drew ?_)
        · repeat (with_reducible first | exact Upd.refl _ _ | assumption | refine u_s ?_ _ | refine Upd.alloc ?_ _ | refine Upd.drewN ?_ _ | refine Upd.drew ?_)
    · go_enter Tryz.func139, Tryz.ntmps139
      go_wp2
      all_goals
        refine bodyPost_ret (v := .bool true) (by simp [results, Tryz.results139, go_sem]) rfl ⟨rfl, ?_, ?_⟩
        · repeat (with_reducible first | exact HS2.out | refine r_o ?_ _ | refine RdAt.alloc ?_ _ | refine RdAt.drewN ?_ _ | refine RdAt.drew ?_)
        · repeat (with_reducible first | exact Upd.refl _ _ | assumption | refine u_s ?_ _ | refine Upd.alloc ?_ _ | refine Upd.drewN ?_ _ | refine Upd.drew ?_)
  · have HS2 : Hid (RdAt (w.setCell ⟨r, 2, none⟩ (.int .i64 ((p.n : Int) * 10 + (key - 48)))) r d { p with n := Nib.nextN p.n key }) := by
      rw [hN, if_neg (by omega)] at HS
      rw [hN, if_neg (by omega)]
      have e : ((p.n * 10 + (key - 48).toNat : Nat) : Int) = (p.n : Int) * 10 + (key - 48) := by omega
      rw [e] at HS
      exact HS
    generalize Nib.nextN p.n key = NN at *
    clear hN HS hd
    rcases h5 with h5 | ⟨h5, h6⟩
    · go_enter Tryz.func139, Tryz.ntmps139
      go_wp2
      all_goals
        refine bodyPost_ret (v := .bool true) (by simp [results, Tryz.results139, go_sem]) rfl ⟨rfl, ?_, ?_⟩
        · repeat (with_reducible first | exact HS2.out | refine r_o ?_ _ | refine RdAt.alloc ?_ _ | refine RdAt.drewN ?_ _ | refine RdAt.drew ?_)
        · repeat (with_reducible first | exact Upd.refl _ _ | assumption | refine u_s ?_ _ | refine Upd.alloc ?_ _ | refine Upd.drewN ?_ _ | refine Upd.drew ?_)
    · go_enter Tryz.func139, Tryz.ntmps139
      go_wp2
      all_goals
        refine bodyPost_ret (v := .bool true) (by simp [results, Tryz.results139, go_sem]) rfl ⟨rfl, ?_, ?_⟩
        · repeat (with_reducible first | exact HS2.out | refine r_o ?_ _ | refine RdAt.alloc ?_ _ | refine RdAt.drewN ?_ _ | refine RdAt.drew ?_)
        · repeat (with_reducible first | exact Upd.refl _ _ | assumption | refine u_s ?_ _ | refine Upd.alloc ?_ _ | refine Upd.drewN ?_ _ | refine Upd.drew ?_)
def cnt (p : Pg) : Nat := if p.n = 0 ∨ p.behind = 0 then p.n + p.behind else min (p.n * p.behind) 99
theorem mCount (r d : Nat) (p : Pg) (w : World) (h : RdAt w r d p) (hn : p.n ≤ 99) (hb : p.behind ≤ 99) :
    Calls Tryz.prog 200 #[.pointer (some ⟨r, 1, none⟩)] w fun e w' => e = .returned (.int .i64 (cnt p)) ∧ Below w.heap.size w w' := by
  obtain ⟨c0, c1, c2, c3, c4, c5, fz, lt⟩ := h.bg
  clear h
  have HC : Hid (cnt p = if p.n = 0 ∨ p.behind = 0 then p.n + p.behind else min (p.n * p.behind) 99) := rfl
  generalize cnt p = y at *
  by_cases h1 : p.n = 0
  · have HD : Hid ((y : Int) = (p.behind : Int)) := by rw [Hid, HC.out, if_pos (Or.inl h1)]; omega
    rw [h1] at c2
    have hw : IntKind.i64.wrap ((p.behind : Nat) : Int) = ((p.behind : Nat) : Int) := by rw [IntKind.wrap_i64]; omega
    clear HC h1
    go_enter Tryz.func200, Tryz.ntmps200
    go_wp2_with fail
    go_region_held3 (fun ww => ww.cell? ⟨r, 2, none⟩ = some (.int .i64 0) ∧ ww.cell? ⟨r, 4, none⟩ = some (.int .i64 (p.behind : Nat))) ((refine ⟨?_, ?_⟩ <;> go_simp)) (fail)
    go_wp2
    all_goals
      refine bodyPost_ret (v := .int .i64 (p.behind : Nat)) (by simp [results, Tryz.results200, go_sem]) rfl ⟨by rw [HD.out], ?_⟩
      repeat (with_reducible first | exact Below.refl _ _ | refine b_s ?_ _ | refine b_a ?_ _ | refine Below.drew ?_ | refine below_drewN ?_ _)
  · by_cases h2 : p.behind = 0
    · have HD : Hid ((y : Int) = (p.n : Int)) := by rw [Hid, HC.out, if_pos (Or.inr h2)]; omega
      have h1' : (((p.n : Nat) : Int) == 0) = false := by simp; omega
      rw [h2] at c4
      have hw : IntKind.i64.wrap ((p.n : Nat) : Int) = ((p.n : Nat) : Int) := by rw [IntKind.wrap_i64]; omega
      clear HC h1 h2
      go_enter Tryz.func200, Tryz.ntmps200
      go_wp2_with fail
      go_region_held3 (fun ww => ww.cell? ⟨r, 2, none⟩ = some (.int .i64 (p.n : Nat)) ∧ ww.cell? ⟨r, 4, none⟩ = some (.int .i64 0)) ((refine ⟨?_, ?_⟩ <;> go_simp)) (fail)
      go_wp2
      all_goals
        refine bodyPost_ret (v := .int .i64 (p.n : Nat)) (by simp [results, Tryz.results200, go_sem]) rfl ⟨by rw [HD.out], ?_⟩
        repeat (with_reducible first | exact Below.refl _ _ | refine b_s ?_ _ | refine b_a ?_ _ | refine Below.drew ?_ | refine below_drewN ?_ _)
    · have hm : p.n * p.behind ≤ 99 * 99 := Nat.mul_le_mul hn hb
      have hm2 : ((p.n * p.behind : Nat) : Int) = (p.n : Int) * (p.behind : Int) := by simp
      have h1' : (((p.n : Nat) : Int) == 0) = false := by simp; omega
      have h2' : (((p.behind : Nat) : Int) == 0) = false := by simp; omega
      by_cases h3 : 99 < p.n * p.behind
      · have HD : Hid ((y : Int) = 99) := by rw [Hid, HC.out, if_neg (by omega)]; omega
        have h3' : 99 < (p.n : Int) * (p.behind : Int) := by omega
        have hw : IntKind.i64.wrap ((p.n : Int) * (p.behind : Int)) = (p.n : Int) * (p.behind : Int) := by rw [IntKind.wrap_i64]; omega
        clear HC h1 h2 hm hm2 h3
        go_enter Tryz.func200, Tryz.ntmps200
        go_wp2_with fail
        go_region_held3 (fun ww => ww.cell? ⟨r, 2, none⟩ = some (.int .i64 (p.n : Nat)) ∧ ww.cell? ⟨r, 4, none⟩ = some (.int .i64 (p.behind : Nat))) ((refine ⟨?_, ?_⟩ <;> go_simp)) (fail)
        go_wp2
        all_goals
          refine bodyPost_ret (v := .int .i64 99) (by simp [results, Tryz.results200, go_sem]) rfl ⟨by rw [HD.out], ?_⟩
          repeat (with_reducible first | exact Below.refl _ _ | refine b_s ?_ _ | refine b_a ?_ _ | refine Below.drew ?_ | refine below_drewN ?_ _)
      · have HD : Hid ((y : Int) = (p.n : Int) * (p.behind : Int)) := by rw [Hid, HC.out, if_neg (by omega)]; omega
        have h3' : ¬ 99 < (p.n : Int) * (p.behind : Int) := by omega
        have hw : IntKind.i64.wrap ((p.n : Int) * (p.behind : Int)) = (p.n : Int) * (p.behind : Int) := by rw [IntKind.wrap_i64]; omega
        clear HC h1 h2 hm hm2 h3
        go_enter Tryz.func200, Tryz.ntmps200
        go_wp2_with fail
        go_region_held3 (fun ww => ww.cell? ⟨r, 2, none⟩ = some (.int .i64 (p.n : Nat)) ∧ ww.cell? ⟨r, 4, none⟩ = some (.int .i64 (p.behind : Nat))) ((refine ⟨?_, ?_⟩ <;> go_simp)) (fail)
        go_wp2
        all_goals
          refine bodyPost_ret (v := .int .i64 ((p.n : Int) * (p.behind : Int))) (by simp [results, Tryz.results200, go_sem]) rfl ⟨by rw [HD.out], ?_⟩
          repeat (with_reducible first | exact Below.refl _ _ | refine b_s ?_ _ | refine b_a ?_ _ | refine Below.drew ?_ | refine below_drewN ?_ _)
theorem begin_any (s : ByteArray) (p : Int) (w : World) (hs : s.size ≤ 1000) (h0 : 0 ≤ p) (hp : p ≤ s.size) :
    Calls Tryz.prog 50 #[.string s, .int .i64 p] w fun e w' => e = .returned (.int .i64 (Nib.beg s p.toNat)) ∧ w' = w := by
  obtain ⟨p, rfl⟩ := Int.eq_ofNat_of_zero_le h0
  rw [Int.toNat_natCast]
  go_enter Tryz.func50, Tryz.ntmps50
  go_wp2
  go_loop [1] (fun i => ∃ k : Nat, k ≤ p ∧ i = .int .i64 k ∧ Hid (Nib.beg s k = Nib.beg s p)) (fun i => (intOf i).toNat)
  case atStart => exact ⟨p, Nat.le_refl _, rfl, rfl⟩
  case round =>
    obtain ⟨k, hk, rfl, hb⟩ := hrel
    cases k with
    | zero =>
      go_wp2
      go_ret
      exact ⟨ret_int (by rw [← hb.out]; rfl), rfl⟩
    | succ k =>
      have hlt : k < s.size := by omega
      by_cases hc : Nib.bt s k = 10
      · have hc' : ((s[k]'hlt).toNat != 10) = false := by rw [Nib.bt_in hlt] at hc; simp; omega
        have hd : Nib.beg s (k + 1) = k + 1 := Nib.dn_stop (by simp [Nib.nl_t hc])
        have H := hb.out; rw [hd] at H; clear hb hd hc
        have HH : Hid (k + 1 = Nib.beg s p) := H
        clear H
        go_wp2
        go_ret
        exact ⟨ret_int (by rw [← HH.out]; rfl), rfl⟩
      · have hc' : ((s[k]'hlt).toNat != 10) = true := by rw [Nib.bt_in hlt] at hc; simp; omega
        have hd : Nib.beg s (k + 1) = Nib.beg s k := Nib.dn_step (by simp [Nib.nl_f hc])
        have H := hb.out; rw [hd] at H; clear hb hd hc
        have HH : Hid (Nib.beg s k = Nib.beg s p) := H
        clear H
        go_wp2
        go_round
        case rel => exact ⟨k, by omega, by go_num, HH⟩
        case measure => simp [intOf]
theorem end_any (s : ByteArray) (p : Int) (w : World) (hs : s.size ≤ 1000) (h0 : 0 ≤ p) (hp : p ≤ 5000) :
    Calls Tryz.prog 94 #[.string s, .int .i64 p] w fun e w' => e = .returned (.int .i64 (Nib.fin s p.toNat)) ∧ w' = w := by
  obtain ⟨p, rfl⟩ := Int.eq_ofNat_of_zero_le h0
  rw [Int.toNat_natCast]
  go_enter Tryz.func94, Tryz.ntmps94
  go_wp2
  go_loop [1] (fun i => ∃ k : Nat, p ≤ k ∧ (k : Int) ≤ 5000 ∧ i = .int .i64 k ∧ Hid (Nib.fin s k = Nib.fin s p)) (fun i => s.size - (intOf i).toNat)
  case atStart => exact ⟨p, Nat.le_refl _, hp, rfl, rfl⟩
  case round =>
    obtain ⟨k, hk, hk2, rfl, hb⟩ := hrel
    by_cases hlt : k < s.size
    · by_cases hc : Nib.bt s k = 10
      · have hc' : ((s[k]'hlt).toNat != 10) = false := by rw [Nib.bt_in hlt] at hc; simp; omega
        have hd : Nib.fin s k = k := Nib.up_stop (by simp [Nib.nl_t hc])
        have H := hb.out; rw [hd] at H; clear hb hd hc
        have HH : Hid (k = Nib.fin s p) := H
        clear H
        go_wp2
        go_ret
        exact ⟨ret_int (by rw [← HH.out]), rfl⟩
      · have hc' : ((s[k]'hlt).toNat != 10) = true := by rw [Nib.bt_in hlt] at hc; simp; omega
        have hd : Nib.fin s k = Nib.fin s (k + 1) := Nib.up_step hlt (by simp [Nib.nl_f hc])
        have H := hb.out; rw [hd] at H; clear hb hd hc
        have HH : Hid (Nib.fin s (k + 1) = Nib.fin s p) := H
        clear H
        go_wp2
        go_round
        case rel => exact ⟨k + 1, by omega, by omega, by go_num, HH⟩
        case measure => simp [intOf]; omega
    · have hd : Nib.fin s k = k := Nib.up_stop (fun h => hlt h.1)
      have H := hb.out; rw [hd] at H; clear hb hd
      have HH : Hid (k = Nib.fin s p) := H
      clear H
      go_wp2
      go_ret
      exact ⟨ret_int (by rw [← HH.out]), rfl⟩
theorem last_any (s : ByteArray) (p : Int) (w : World) (hs : s.size ≤ 1000) (h0 : 0 ≤ p) (hp : p ≤ s.size) :
    Calls Tryz.prog 95 #[.string s, .int .i64 p] w fun e w' => e = .returned (.int .i64 (Nib.lst s p.toNat)) ∧ w' = w := by
  obtain ⟨p, rfl⟩ := Int.eq_ofNat_of_zero_le h0
  have hb := Nib.beg_le s p
  have hf := Nib.fin_le (s := s) (p := p) (by omega)
  have HL : Hid (Nib.lst s p = if Nib.beg s p < Nib.fin s p then Nib.fin s p - 1 else Nib.beg s p) := rfl
  rw [Int.toNat_natCast]
  go_enter Tryz.func95, Tryz.ntmps95
  go_wp2_with fail
  refine (begin_any s p w hs h0 hp).mono ?_
  rintro e w' ⟨rfl, rfl⟩
  rw [Int.toNat_natCast]
  go_wp2_with fail
  refine (end_any s p _ hs h0 (by omega)).mono ?_
  rintro e w' ⟨rfl, rfl⟩
  rw [Int.toNat_natCast]
  by_cases hlt : Nib.beg s p < Nib.fin s p
  · go_wp2
    go_ret
    exact ⟨ret_int (by rw [HL.out, if_pos hlt]; omega), rfl⟩
  · go_wp2
    go_ret
    exact ⟨ret_int (by rw [HL.out, if_neg hlt]), rfl⟩
theorem clamp_any (s : ByteArray) (p : Int) (w : World) (hs : s.size ≤ 1000) (h0 : 0 ≤ p) (hp : p ≤ s.size) :
    Calls Tryz.prog 73 #[.string s, .int .i64 p] w fun e w' => e = .returned (.int .i64 (Nib.clm s p.toNat)) ∧ w' = w := by
  obtain ⟨p, rfl⟩ := Int.eq_ofNat_of_zero_le h0
  have HL : Hid (Nib.clm s p = if Nib.lst s p < p then Nib.lst s p else p) := rfl
  rw [Int.toNat_natCast]
  go_enter Tryz.func73, Tryz.ntmps73
  go_wp2_with fail
  refine (last_any s p w hs h0 hp).mono ?_
  rintro e w' ⟨rfl, rfl⟩
  rw [Int.toNat_natCast]
  by_cases hlt : Nib.lst s p < p
  · go_wp2
    go_ret
    exact ⟨ret_int (by rw [HL.out, if_pos hlt]), rfl⟩
  · go_wp2
    go_ret
    exact ⟨ret_int (by rw [HL.out, if_neg hlt]), rfl⟩
theorem blank_any (c : Int) (w : World) :
    Calls Tryz.prog 68 #[.int .u8 c] w fun e w' => e = .returned (.bool (Nib.blk c)) ∧ w' = w := by
  go_enter Tryz.func68, Tryz.ntmps68
  go_wp2
  all_goals
    go_ret
    exact ⟨ret_bool (by rw [Bool.eq_iff_iff]; simp [Nib.blk]; try omega), rfl⟩
theorem space_any (c : Int) (w : World) :
    Calls Tryz.prog 103 #[.int .u8 c] w fun e w' => e = .returned (.bool (Nib.spc c)) ∧ w' = w := by
  go_enter Tryz.func103, Tryz.ntmps103
  go_wp2
  all_goals
    go_ret
    exact ⟨ret_bool (by rw [Bool.eq_iff_iff]; simp [Nib.spc]; try omega), rfl⟩
theorem class_any (c : Int) (g : Bool) (w : World) :
    Calls Tryz.prog 118 #[.int .u8 c, .bool g] w fun e w' => e = .returned (.int .i64 (Nib.cls c g)) ∧ w' = w := by
  by_cases hb : Nib.blk c = true
  · have hc : Nib.cls c g = 0 := by simp [Nib.cls, hb]
    have HC : Hid (Nib.cls c g = 0) := hc
    have HB := hb
    clear hc
    go_enter Tryz.func118, Tryz.ntmps118
    go_wp2_with fail
    refine (blank_any c w).mono ?_
    rintro e w' ⟨rfl, rfl⟩
    go_wp2
    go_ret
    exact ⟨ret_int (by rw [HC.out]), rfl⟩
  · have hb' : Nib.blk c = false := by simpa using hb
    clear hb
    cases g with
    | true =>
      have HG : Hid (Nib.cls c true = if c = 10 then 1 else 2) := by
        simp [Hid, Nib.cls, hb']
      go_enter Tryz.func118, Tryz.ntmps118
      go_wp2_with fail
      refine (blank_any c w).mono ?_
      rintro e w' ⟨rfl, rfl⟩
      go_wp2
      all_goals
        go_ret
        refine ⟨ret_int ?_, rfl⟩
        have H := HG.out
        clear HG hb'
        simp only [beq_iff_eq, beq_eq_false_iff_ne, ne_eq] at *
        rw [H]
        (repeat' split) <;> omega
    | false =>
      have HG : Hid (Nib.cls c false = if c = 10 then 1 else if 128 ≤ c ∨ c = 95 ∨ (48 ≤ c ∧ c ≤ 57) ∨ (65 ≤ c ∧ c ≤ 90) ∨ (97 ≤ c ∧ c ≤ 122) then 2 else 3) := by
        simp [Hid, Nib.cls, hb']
      go_enter Tryz.func118, Tryz.ntmps118
      go_wp2_with fail
      refine (blank_any c w).mono ?_
      rintro e w' ⟨rfl, rfl⟩
      go_wp2
      all_goals
        go_ret
        refine ⟨ret_int ?_, rfl⟩
        have H := HG.out
        clear HG hb'
        simp only [beq_iff_eq, beq_eq_false_iff_ne, ne_eq] at *
        rw [H]
        (repeat' split) <;> omega
theorem empty_any (s : ByteArray) (p : Int) (w : World) (hs : s.size ≤ 1000) (h0 : 0 ≤ p) (hp : p ≤ s.size) :
    Calls Tryz.prog 77 #[.string s, .int .i64 p] w fun e w' => e = .returned (.bool (Nib.emp s p.toNat)) ∧ w' = w := by
  obtain ⟨p, rfl⟩ := Int.eq_ofNat_of_zero_le h0
  rw [Int.toNat_natCast]
  have HE : Hid (Nib.emp s p = (Nib.beg s p == p && Nib.fin s p == p)) := rfl
  go_enter Tryz.func77, Tryz.ntmps77
  go_wp2_with fail
  refine (begin_any s p w hs h0 hp).mono ?_
  rintro e w' ⟨rfl, rfl⟩
  rw [Int.toNat_natCast]
  by_cases hb : Nib.beg s p = p
  · have hb' : ((Nib.beg s p : Int) == (p : Int)) = true := by simp [hb]
    go_wp2_with fail
    refine (end_any s p _ hs h0 (by omega)).mono ?_
    rintro e w' ⟨rfl, rfl⟩
    rw [Int.toNat_natCast]
    go_wp2
    go_ret
    exact ⟨ret_bool (by rw [HE.out]; rw [Bool.eq_iff_iff]; simp; try omega), rfl⟩
  · have hb' : ((Nib.beg s p : Int) == (p : Int)) = false := by simp; omega
    go_wp2
    go_ret
    exact ⟨ret_bool (by rw [HE.out]; rw [Bool.eq_iff_iff]; simp; try omega), rfl⟩
theorem line_any (s : ByteArray) (p : Int) (w : World) (hs : s.size ≤ 1000) (h0 : 0 ≤ p) (hp : p ≤ s.size) :
    Calls Tryz.prog 74 #[.string s, .int .i64 p] w fun e w' => e = .returned (.int .i64 (Nib.lin s p.toNat)) ∧ w' = w := by
  obtain ⟨p, rfl⟩ := Int.eq_ofNat_of_zero_le h0
  rw [Int.toNat_natCast]
  go_enter Tryz.func74, Tryz.ntmps74
  go_wp2
  go_loop [5, 6] (fun n i => ∃ k : Nat, k ≤ p ∧ i = .int .i64 k ∧ n = .int .i64 (Nib.lin s k)) (fun _ i => p - (intOf i).toNat)
  case atStart => exact ⟨0, Nat.zero_le _, rfl, rfl⟩
  case round =>
    obtain ⟨k, hk, rfl, rfl⟩ := hrel
    have hl := Nib.lin_le s k
    by_cases hlt : k < p
    · have hks : k < s.size := by omega
      have HS : Hid (Nib.lin s (k + 1) = if Nib.nl s k = true then Nib.lin s k + 1 else Nib.lin s k) := rfl
      by_cases hc : Nib.bt s k = 10
      · have hc' : ((s[k]'hks).toNat == 10) = true := by rw [Nib.bt_in hks] at hc; simp; omega
        have HN : Hid (Nib.nl s k = true) := Nib.nl_t hc
        clear hc
        go_wp2
        go_round
        case rel => exact ⟨k + 1, by omega, by go_num, by rw [HS.out, if_pos HN.out]; go_num⟩
        case measure => simp [intOf]; omega
      · have hc' : ((s[k]'hks).toNat == 10) = false := by rw [Nib.bt_in hks] at hc; simp; omega
        have HN : Hid (¬ Nib.nl s k = true) := by simp [Hid, Nib.nl_f hc]
        clear hc
        go_wp2
        go_round
        case rel => exact ⟨k + 1, by omega, by go_num, by rw [HS.out, if_neg HN.out]⟩
        case measure => simp [intOf]; omega
    · have : k = p := by omega
      subst this
      go_wp2
      go_ret
      exact ⟨rfl, rfl⟩
theorem lines_any (s : ByteArray) (w : World) (hs : s.size ≤ 1000) :
    Calls Tryz.prog 102 #[.string s] w fun e w' => e = .returned (.int .i64 (Nib.lns s)) ∧ w' = w := by
  have hl := Nib.lin_le s s.size
  go_enter Tryz.func102, Tryz.ntmps102
  go_wp2_with fail
  refine (line_any s s.size w hs (by omega) (by omega)).mono ?_
  rintro e w' ⟨rfl, rfl⟩
  rw [Int.toNat_natCast]
  go_wp2
  go_ret
  exact ⟨ret_int (by unfold Nib.lns; omega), rfl⟩
theorem at_any (s : ByteArray) (n : Int) (w : World) (hs : s.size ≤ 1000) (h0 : 0 ≤ n) (hn : n ≤ 2000) :
    Calls Tryz.prog 72 #[.string s, .int .i64 n] w fun e w' => e = .returned (.int .i64 (Nib.att s n.toNat)) ∧ w' = w := by
  obtain ⟨n, rfl⟩ := Int.eq_ofNat_of_zero_le h0
  rw [Int.toNat_natCast]
  go_enter Tryz.func72, Tryz.ntmps72
  go_wp2
  go_loop [5, 6] (fun p i => ∃ k : Nat, k ≤ n ∧ i = .int .i64 k ∧ p = .int .i64 (Nib.att s k)) (fun _ i => n - (intOf i).toNat)
  case atStart => exact ⟨0, Nat.zero_le _, rfl, rfl⟩
  case round =>
    obtain ⟨k, hk, rfl, rfl⟩ := hrel
    have hb := Nib.att_le s k
    by_cases hlt : k < n
    · have HS : Hid (Nib.att s (k + 1) = Nib.fin s (Nib.att s k) + 1) := rfl
      have hf := Nib.fin_le' s (Nib.att s k)
      go_wp2_with fail
      refine (end_any s (Nib.att s k) _ hs (by omega) (by omega)).mono ?_
      rintro e w' ⟨rfl, rfl⟩
      rw [Int.toNat_natCast]
      go_wp2
      go_round
      case rel => exact ⟨k + 1, by omega, by go_num, by rw [HS.out]; go_num⟩
      case measure => simp [intOf]; omega
    · have : k = n := by omega
      subst this
      go_wp2
      go_ret
      exact ⟨rfl, rfl⟩
theorem first_any (s : ByteArray) (p : Int) (w : World) (hs : s.size ≤ 1000) (h0 : 0 ≤ p) (hp : p ≤ s.size) :
    Calls Tryz.prog 105 #[.string s, .int .i64 p] w fun e w' => e = .returned (.int .i64 (Nib.frs s p.toNat)) ∧ w' = w := by
  obtain ⟨p, rfl⟩ := Int.eq_ofNat_of_zero_le h0
  rw [Int.toNat_natCast]
  have hb := Nib.beg_le s p
  have hf := Nib.fin_le (s := s) (p := p) (by omega)
  have hg := Nib.fin_ge s p
  have HL : Hid (Nib.frs s p = if Nib.up (fun i => Nib.blk (Nib.bt s i)) (Nib.fin s p) (Nib.beg s p) < Nib.fin s p then Nib.up (fun i => Nib.blk (Nib.bt s i)) (Nib.fin s p) (Nib.beg s p) else Nib.lst s p) := rfl
  go_enter Tryz.func105, Tryz.ntmps105
  go_wp2_with fail
  refine (begin_any s p w hs h0 hp).mono ?_
  rintro e w' ⟨rfl, rfl⟩
  rw [Int.toNat_natCast]
  go_wp2_with fail
  refine (end_any s p _ hs h0 (by omega)).mono ?_
  rintro e w' ⟨rfl, rfl⟩
  rw [Int.toNat_natCast]
  go_wp2
  go_loop [7] (fun i => ∃ k : Nat, Nib.beg s p ≤ k ∧ k ≤ Nib.fin s p ∧ i = .int .i64 k ∧ Hid (Nib.up (fun i => Nib.blk (Nib.bt s i)) (Nib.fin s p) k = Nib.up (fun i => Nib.blk (Nib.bt s i)) (Nib.fin s p) (Nib.beg s p))) (fun i => Nib.fin s p - (intOf i).toNat)
  case atStart => exact ⟨Nib.beg s p, by omega, by omega, rfl, rfl⟩
  case round =>
    obtain ⟨k, hk, hk2, rfl, hu⟩ := hrel
    by_cases hlt : k < Nib.fin s p
    · have hks : k < s.size := by omega
      cases hbl : Nib.blk (Nib.bt s k) with
      | true =>
        have HS : Hid (Nib.up (fun i => Nib.blk (Nib.bt s i)) (Nib.fin s p) (k + 1) = Nib.up (fun i => Nib.blk (Nib.bt s i)) (Nib.fin s p) (Nib.beg s p)) := by
          have := Nib.up_step (c := fun i => Nib.blk (Nib.bt s i)) hlt hbl
          rw [Hid, ← this]; exact hu.out
        rw [Nib.bt_in hks] at hbl
        go_wp2_with fail
        refine (blank_any _ _).mono ?_
        rintro e w' ⟨rfl, rfl⟩
        go_wp2
        go_round
        case rel => exact ⟨k + 1, by omega, by omega, by go_num, HS⟩
        case measure => simp [intOf]; omega
      | false =>
        have HS : Hid (k = Nib.up (fun i => Nib.blk (Nib.bt s i)) (Nib.fin s p) (Nib.beg s p)) := by
          have := Nib.up_stop (c := fun i => Nib.blk (Nib.bt s i)) (n := Nib.fin s p) (p := k) (by simp [hbl])
          rw [Hid, ← hu.out]; exact this.symm
        rw [Nib.bt_in hks] at hbl
        clear hu
        go_wp2_with fail
        refine (blank_any _ _).mono ?_
        rintro e w' ⟨rfl, rfl⟩
        go_wp2
        go_ret
        exact ⟨ret_int (by rw [HL.out, ← HS.out, if_pos hlt]), rfl⟩
    · have HS : Hid (k = Nib.up (fun i => Nib.blk (Nib.bt s i)) (Nib.fin s p) (Nib.beg s p)) := by
        have := Nib.up_stop (c := fun i => Nib.blk (Nib.bt s i)) (n := Nib.fin s p) (p := k) (by simp [hlt])
        rw [Hid, ← hu.out]; exact this.symm
      clear hu
      go_wp2_with fail
      refine (last_any s p _ hs h0 hp).mono ?_
      rintro e w' ⟨rfl, rfl⟩
      rw [Int.toNat_natCast]
      go_wp2
      go_ret
      exact ⟨ret_int (by rw [HL.out, ← HS.out, if_neg hlt]), rfl⟩
theorem begin_at (s : ByteArray) (p : Int) (k : Nat) (w : World) (hs : s.size ≤ 1000) (e : p = k) (hp : k ≤ s.size) :
    Calls Tryz.prog 50 #[.string s, .int .i64 p] w fun e w' => e = .returned (.int .i64 (Nib.beg s k)) ∧ w' = w := by
  subst e; have h := begin_any s k w hs (by omega) (by omega); rw [Int.toNat_natCast] at h; exact h
theorem end_at (s : ByteArray) (p : Int) (k : Nat) (w : World) (hs : s.size ≤ 1000) (e : p = k) (hp : k ≤ 5000) :
    Calls Tryz.prog 94 #[.string s, .int .i64 p] w fun e w' => e = .returned (.int .i64 (Nib.fin s k)) ∧ w' = w := by
  subst e; have h := end_any s k w hs (by omega) (by omega); rw [Int.toNat_natCast] at h; exact h
theorem last_at (s : ByteArray) (p : Int) (k : Nat) (w : World) (hs : s.size ≤ 1000) (e : p = k) (hp : k ≤ s.size) :
    Calls Tryz.prog 95 #[.string s, .int .i64 p] w fun e w' => e = .returned (.int .i64 (Nib.lst s k)) ∧ w' = w := by
  subst e; have h := last_any s k w hs (by omega) (by omega); rw [Int.toNat_natCast] at h; exact h
theorem clamp_at (s : ByteArray) (p : Int) (k : Nat) (w : World) (hs : s.size ≤ 1000) (e : p = k) (hp : k ≤ s.size) :
    Calls Tryz.prog 73 #[.string s, .int .i64 p] w fun e w' => e = .returned (.int .i64 (Nib.clm s k)) ∧ w' = w := by
  subst e; have h := clamp_any s k w hs (by omega) (by omega); rw [Int.toNat_natCast] at h; exact h
theorem empty_at (s : ByteArray) (p : Int) (k : Nat) (w : World) (hs : s.size ≤ 1000) (e : p = k) (hp : k ≤ s.size) :
    Calls Tryz.prog 77 #[.string s, .int .i64 p] w fun e w' => e = .returned (.bool (Nib.emp s k)) ∧ w' = w := by
  subst e; have h := empty_any s k w hs (by omega) (by omega); rw [Int.toNat_natCast] at h; exact h
theorem line_at (s : ByteArray) (p : Int) (k : Nat) (w : World) (hs : s.size ≤ 1000) (e : p = k) (hp : k ≤ s.size) :
    Calls Tryz.prog 74 #[.string s, .int .i64 p] w fun e w' => e = .returned (.int .i64 (Nib.lin s k)) ∧ w' = w := by
  subst e; have h := line_any s k w hs (by omega) (by omega); rw [Int.toNat_natCast] at h; exact h
theorem at_at (s : ByteArray) (p : Int) (k : Nat) (w : World) (hs : s.size ≤ 1000) (e : p = k) (hp : k ≤ 2000) :
    Calls Tryz.prog 72 #[.string s, .int .i64 p] w fun e w' => e = .returned (.int .i64 (Nib.att s k)) ∧ w' = w := by
  subst e; have h := at_any s k w hs (by omega) (by omega); rw [Int.toNat_natCast] at h; exact h
theorem first_at (s : ByteArray) (p : Int) (k : Nat) (w : World) (hs : s.size ≤ 1000) (e : p = k) (hp : k ≤ s.size) :
    Calls Tryz.prog 105 #[.string s, .int .i64 p] w fun e w' => e = .returned (.int .i64 (Nib.frs s k)) ∧ w' = w := by
  subst e; have h := first_any s k w hs (by omega) (by omega); rw [Int.toNat_natCast] at h; exact h
end Go.Proofs.YtlendfhehhacpaaGreat
