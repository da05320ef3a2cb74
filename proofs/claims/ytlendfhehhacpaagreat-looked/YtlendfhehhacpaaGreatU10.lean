/- A part. -/
import Derived.Test.YtlendfhehhacpaaGreatU06
set_option linter.unusedVariables false
set_option linter.unusedSimpArgs false
set_option maxRecDepth 100000
set_option maxHeartbeats 8000000
namespace Go.Proofs.YtlendfhehhacpaaGreat
open Go.RowKit Tryz
theorem eqIn_u8 (d : Nat) (a b : Int) (w : World) : (Op.equalIn (d + 1) 5 (.int .u8 a) (.int .u8 b)).run Tryz.prog w = .ok (a == b) w := by
 simp [Op.equalIn, run_underlying underlying5]
theorem eq_begun_in (k : Nat) (a b c d e : Int) (w : World) : (Op.equalIn (k + 2) 85 (.agg #[.int .u8 a, .int .i64 b, .int .u8 c, .int .i64 d, .int .u8 e]) (.agg #[.int .u8 0, .int .i64 0, .int .u8 0, .int .i64 0, .int .u8 0])).run Tryz.prog w = .ok ((a == 0) && (b == 0) && (c == 0) && (d == 0) && (e == 0)) w := by
 have h := fun x y w => eqIn_int k x y w
 have h' := fun x y w => eqIn_u8 k x y w
 rw [show k + 2 = (k + 1) + 1 by omega]
 rw [Op.equalIn]
 simp only [Sem.run_bind, run_underlying underlying85, Result.andThen_ok]
 simp [go_sem, part, h, h', Std.Legacy.Range.forIn_eq_forIn_range', List.range']
 by_cases h1 : a = 0 <;> by_cases h2 : b = 0 <;> by_cases h3 : c = 0 <;> by_cases h4 : d = 0 <;> by_cases h5 : e = 0 <;> simp [h1, h2, h3, h4, h5]
theorem eq_begun (a b c d e : Int) (w : World) : (Op.equal 85 (.agg #[.int .u8 a, .int .i64 b, .int .u8 c, .int .i64 d, .int .u8 e]) (.agg #[.int .u8 0, .int .i64 0, .int .u8 0, .int .i64 0, .int .u8 0])).run Tryz.prog w = .ok ((a == 0) && (b == 0) && (c == 0) && (d == 0) && (e == 0)) w := eq_begun_in 9998 a b c d e w
theorem neq_begun (a b c d e : Int) (w : World) : (binOp .neq 85 (.agg #[.int .u8 a, .int .i64 b, .int .u8 c, .int .i64 d, .int .u8 e]) (.agg #[.int .u8 0, .int .i64 0, .int .u8 0, .int .i64 0, .int .u8 0])).run Tryz.prog w = .ok (.bool (!((a == 0) && (b == 0) && (c == 0) && (d == 0) && (e == 0)))) w := by
 have e : binOp .neq 85 (.agg #[.int .u8 a, .int .i64 b, .int .u8 c, .int .i64 d, .int .u8 e]) (.agg #[.int .u8 0, .int .i64 0, .int .u8 0, .int .i64 0, .int .u8 0]) = (do pure (.bool (!(← Op.equal 85 (.agg #[.int .u8 a, .int .i64 b, .int .u8 c, .int .i64 d, .int .u8 e]) (.agg #[.int .u8 0, .int .i64 0, .int .u8 0, .int .i64 0, .int .u8 0]))))) := rfl
 rw [e, Sem.run_bind, eq_begun]
 rfl
def waits (p : Pg) : Bool := !((p.reg == 0) && ((p.n : Int) == 0) && (p.verb == 0) && ((p.behind : Int) == 0) && (p.part == 0))
abbrev Pg.none' (p : Pg) : Pg := { p with reg := 0, n := 0, verb := 0, behind := 0, part := 0 }
theorem mWaiting (r d : Nat) (p : Pg) (w : World) (h : RdAt w r d p) :
  qC 39 #[.pointer (some ⟨r, 1, none⟩)] w (.bool (waits p)) := by
 obtain ⟨c0, c1, c2, c3, c4, c5, fz, lt⟩ := h.bg
 have hq := neq_begun p.reg p.n p.verb p.behind p.part
 have HW : Hid (waits p = !((p.reg == 0) && ((p.n : Int) == 0) && (p.verb == 0) && ((p.behind : Int) == 0) && (p.part == 0))) := rfl
 generalize waits p = y at *
 clear h
 have l1 : r < w.heap.size + 1 := by omega
 go_enter func39, ntmps39
 go_wp2
 exact qV (.bool (!((p.reg == 0) && ((p.n : Int) == 0) && (p.verb == 0) && ((p.behind : Int) == 0) && (p.part == 0)))) (by simp [results, results39, go_sem]) (ret_bool (by rw [HW.out]))
theorem qt38 {P : Prop} (h : P := by
  go_wp2
  go_end0
  refine ⟨rfl, ?_, ?_⟩
  ·repeat exact qRd
  ·repeat exact qU
 ) : P := h
theorem mForget (r d : Nat) (p : Pg) (w : World) (h : RdAt w r d p) :
  Calls Tryz.prog 65 #[.pointer (some ⟨r, 1, none⟩)] w fun e w' => e = .returned (.tuple #[]) ∧ RdAt w' r d p.none' ∧ Upd [r] w w' := by
 have HF := ((((h.set_reg 0).set_n 0).set_verb 0).set_behind 0).set_part 0
 rw [show ((0 : Nat) : Int) = 0 from rfl] at HF
 obtain ⟨c0, c1, c2, c3, c4, c5, fz, lt⟩ := h.bg
 clear h
 go_enter func65, ntmps65
 exact qt38
theorem qt13 {P : Prop} (h : P := by
  go_wp2
  go_ret
  refine ⟨rfl, ?_, ?_⟩
  ·repeat exact qRd
  ·repeat exact qU
 ) : P := h
theorem mAwait (r d : Nat) (p : Pg) (part : Int) (w : World) (h : RdAt w r d p) :
  Calls Tryz.prog 142 #[.pointer (some ⟨r, 1, none⟩), .int .u8 part] w fun e w' => e = .returned (.int .i64 0) ∧ RdAt w' r d { p with part := part } ∧ Upd [r] w w' := by
 have HF := h.set_part part
 obtain ⟨c0, c1, c2, c3, c4, c5, fz, lt⟩ := h.bg
 clear h
 go_enter func142, ntmps142
 exact qt13
