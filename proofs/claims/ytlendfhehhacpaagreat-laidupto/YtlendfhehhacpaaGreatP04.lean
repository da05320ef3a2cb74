/- A part. -/
import Derived.Test.YtlendfhehhacpaaGreatP02
import Derived.Test.YtlendfhehhacpaaGreatP03
set_option linter.unusedVariables false
set_option linter.unusedSimpArgs false
set_option maxRecDepth 100000
set_option maxHeartbeats 8000000
namespace Go.Proofs.YtlendfhehhacpaaGreat
open Go.RowKit
theorem tClass_any (c : Int) (g : Bool) (w : World) :
  Calls Tryz.prog 225 #[.int .u8 c, .bool g] w fun e w' => e = .returned (.int .i64 (Nib.cls c g)) ∧ w' = w := by
 generalize hx : Nib.cls c g = x
 have HX : Hid (x = if Nib.blk c = true then 0 else if c = 10 then 1 else if g = true ∨ 128 ≤ c ∨ c = 95 ∨ (48 ≤ c ∧ c ≤ 57) ∨ (65 ≤ c ∧ c ≤ 90) ∨ (97 ≤ c ∧ c ≤ 122) then 2 else 3) := hx.symm
 clear hx
 by_cases h32 : c = 32
 ·have HY : Hid (x = 0) := by rw [Hid, HX.out, if_pos (by simp [Nib.blk, h32])]
  clear HX
  go_enter Tryz.func225, Tryz.ntmps225
  go_wp2
  go_ret
  exact ⟨ret_int (by rw [HY.out]), rfl⟩
 by_cases h9 : c = 9
 ·have HY : Hid (x = 0) := by rw [Hid, HX.out, if_pos (by simp [Nib.blk, h9])]
  clear HX
  go_enter Tryz.func225, Tryz.ntmps225
  go_wp2
  go_ret
  exact ⟨ret_int (by rw [HY.out]), rfl⟩
 by_cases h10 : c = 10
 ·have HY : Hid (x = 1) := by rw [Hid, HX.out, if_neg (by simp [Nib.blk, h32, h9]), if_pos h10]
  clear HX
  subst h10
  go_enter Tryz.func225, Tryz.ntmps225
  go_wp2
  go_ret
  exact ⟨ret_int (by rw [HY.out]), rfl⟩
 have HY : Hid (x = if g = true ∨ 128 ≤ c ∨ c = 95 ∨ (48 ≤ c ∧ c ≤ 57) ∨ (65 ≤ c ∧ c ≤ 90) ∨ (97 ≤ c ∧ c ≤ 122) then 2 else 3) := by rw [Hid, HX.out, if_neg (by simp [Nib.blk, h32, h9]), if_neg h10]
 clear HX
 have b32 : (c == 32) = false := by simp [h32]
 have b9 : (c == 9) = false := by simp [h9]
 have b10 : (c == 10) = false := by simp [h10]
 cases g with
 | true =>
  have HZ : Hid (x = 2) := by rw [Hid, HY.out]; simp
  clear HY
  go_enter Tryz.func225, Tryz.ntmps225
  go_wp2
  go_ret
  exact ⟨ret_int (by rw [HZ.out]), rfl⟩
 | false =>
  by_cases hq : (128 ≤ c ∨ c = 95 ∨ (48 ≤ c ∧ c ≤ 57) ∨ (65 ≤ c ∧ c ≤ 90) ∨ (97 ≤ c ∧ c ≤ 122))
  ·have HZ : Hid (x = 2) := by rw [Hid, HY.out, if_pos (Or.inr hq)]
   have HW : Hid (decide (128 ≤ c ∨ c = 95 ∨ (48 ≤ c ∧ c ≤ 57) ∨ (65 ≤ c ∧ c ≤ 90) ∨ (97 ≤ c ∧ c ≤ 122)) = true) := by rw [Hid]; exact decide_eq_true hq
   clear HY hq
   go_enter Tryz.func225, Tryz.ntmps225
   go_wp2_with fail
   refine (tIsWord_any c _).mono ?_
   rintro e w' ⟨rfl, rfl⟩
   rw [HW.out]
   go_wp2
   go_ret
   exact ⟨ret_int (by rw [HZ.out]), rfl⟩
  ·have HZ : Hid (x = 3) := by rw [Hid, HY.out, if_neg (by simp only [Bool.false_eq_true, false_or]; exact hq)]
   have HW : Hid (decide (128 ≤ c ∨ c = 95 ∨ (48 ≤ c ∧ c ≤ 57) ∨ (65 ≤ c ∧ c ≤ 90) ∨ (97 ≤ c ∧ c ≤ 122)) = false) := by rw [Hid]; exact decide_eq_false hq
   clear HY hq
   go_enter Tryz.func225, Tryz.ntmps225
   go_wp2_with fail
   refine (tIsWord_any c _).mono ?_
   rintro e w' ⟨rfl, rfl⟩
   rw [HW.out]
   go_wp2
   go_ret
   exact ⟨ret_int (by rw [HZ.out]), rfl⟩
theorem qt56 {P : Prop} (h : P := by
  generalize Nib.att s m = D at *
  go_enter Tryz.func223, Tryz.ntmps223
  go_wp2_with fail
  refine (HL.out _).mono ?_
  rintro e w1 ⟨rfl, h1⟩
  obtain ⟨hc1, hf1, hz1⟩ := qb h1
  try simp at hz1
  go_wp2
  refine bodyPost_ret (v := .tuple #[.agg #[.int .i64 (A), .int .i64 (B)], .bool true]) (by simp [results, Tryz.results223, go_sem, hc1]) rfl ⟨rfl, ?_⟩
  repeat (with_reducible first | exact Below.refl _ _ | refine b_s ?_ _ | refine b_a ?_ _ | refine Below.drew ?_ | refine below_drewN ?_ _ | refine b_t ?_ h1)
 ) : P := h
theorem tBeside_down (s : ByteArray) (a b d : Int) (m : Nat) (w : World) (hs : s.size ≤ 1000) (ea : a = Nib.att s m) (eb : b = Nib.fin s (Nib.att s m)) (ed : d = 1) (h : m + 1 < Nib.lns s) :
  qC 223 #[.string s, .agg #[.int .i64 (a), .int .i64 (b)], .int .i64 d] w (.tuple #[.agg #[.int .i64 (Nib.att s (m + 1)), .int .i64 (Nib.fin s (Nib.att s (m + 1)))], .bool true]) := by
 subst ea eb ed
 have h1 := Nib.fin_lt_of h
 have h2 := Nib.line_down h
 have HL : qH 195 #[.string s, .int .i64 (((Nib.fin s (Nib.att s m) : Nat) : Int) + 1)] (.agg #[.int .i64 (Nib.att s (m + 1)), .int .i64 (Nib.fin s (Nib.att s (m + 1)))]) := by
  intro ww
  have := tLine_any s (((Nib.fin s (Nib.att s m) : Nat) : Int) + 1) (Nib.fin s (Nib.att s m) + 1) ww hs qo qo
  rw [h2.1, h2.2] at this
  exact this
 clear h2
 generalize Nib.att s (m + 1) = A at *
 generalize Nib.fin s A = B at *
 generalize Nib.fin s (Nib.att s m) = F at *
 exact qt56
theorem tBeside_up (s : ByteArray) (a b d : Int) (m : Nat) (w : World) (hs : s.size ≤ 1000) (ea : a = Nib.att s m) (hm : m < Nib.lns s) (ed : d = -1) (h : 0 < m) :
  qC 223 #[.string s, .agg #[.int .i64 (a), .int .i64 (b)], .int .i64 d] w (.tuple #[.agg #[.int .i64 (Nib.att s (m - 1)), .int .i64 (Nib.fin s (Nib.att s (m - 1)))], .bool true]) := by
 subst ea ed
 have h1 := Nib.att_pos (s := s) h
 have h3 := (Nib.att_in hm).1
 have h2 := Nib.line_up hm h
 have HL : qH 195 #[.string s, .int .i64 (((Nib.att s m : Nat) : Int) - 1)] (.agg #[.int .i64 (Nib.att s (m - 1)), .int .i64 (Nib.fin s (Nib.att s (m - 1)))]) := by
  intro ww
  have := tLine_any s (((Nib.att s m : Nat) : Int) - 1) (Nib.att s m - 1) ww hs qo qo
  rw [h2.1, h2.2] at this
  exact this
 clear h2
 generalize Nib.att s (m - 1) = A at *
 generalize Nib.fin s A = B at *
 exact qt56
theorem qt71 {P : Prop} (h : P := by
  subst h3
  clear h1 h2
  go_enter Tryz.func223, Tryz.ntmps223
  go_wp2
  refine bodyPost_ret (v := .tuple #[.agg #[.int .i64 (0), .int .i64 (0)], .bool false]) (by simp [results, Tryz.results223, go_sem]) rfl ⟨rfl, ?_⟩
  repeat (with_reducible first | exact Below.refl _ _ | refine b_s ?_ _ | refine b_a ?_ _ | refine Below.drew ?_ | refine below_drewN ?_ _)
 ) : P := h
theorem tBeside_none (s : ByteArray) (a b d : Int) (w : World) (hs : s.size ≤ 1000) (ed : d = 1 ∨ d = -1) (h1 : d = 1 → b = s.size) (h2 : d = -1 → a = 0) :
  qC 223 #[.string s, .agg #[.int .i64 (a), .int .i64 (b)], .int .i64 d] w (.tuple #[.agg #[.int .i64 (0), .int .i64 (0)], .bool false]) := by
 rcases ed with rfl | rfl
 ·have h3 := h1 rfl
  exact qt71
 ·have h3 := h2 rfl
  exact qt71
end Go.Proofs.YtlendfhehhacpaaGreat
