/- Joined of the texts WaysQ. -/
import Derived.Test.YtlendfhehhacpaaGreatP20
set_option linter.unusedVariables false
set_option linter.unusedSimpArgs false
set_option maxRecDepth 100000
set_option maxHeartbeats 8000000
namespace Go.Proofs.YtlendfhehhacpaaGreat
open Go.RowKit
theorem sGo_104 (s : ByteArray) (p n : Int) (v c : Bool) (w : World) (R : Int × Int × Bool)
    (HG : Hid (∀ ww, Calls Tryz.prog 205 #[.agg #[.string s, .int .i64 (p), .int .i64 (n), .bool v, .bool c], .int .u8 104] ww fun e w' => e = .returned (.tuple #[.agg #[.int .i64 (wayX (R)), .int .i64 (wayK (R))], .bool (wayZ (R))]) ∧ Below ww.heap.size ww w')) :
    Calls Tryz.prog 169 #[.int .u8 104, .agg #[.string s, .int .i64 (p), .int .i64 (n), .bool v, .bool c]] w fun e w' => e = .returned (.tuple #[.agg #[.int .i64 (wayX (R)), .int .i64 (wayK (R))], .bool (wayZ (R))]) ∧ Below w.heap.size w w' := by
  go_enter Tryz.func169, Tryz.ntmps169
  have RB : Two ((w.alloc (.cells #[.string s, .int .i64 (p), .int .i64 (n), .bool v, .bool c] 206)).alloc (.cells #[.int .i64 0, .int .i64 0] 202)) (w.heap.size + 1) 0 0 := by have := Two.new (w.alloc (.cells #[.string s, .int .i64 (p), .int .i64 (n), .bool v, .bool c] 206)) 0 0 202; simpa using this
  go_wp2_with fail
  refine (HG.out _).mono ?_
  rintro r1 w1 ⟨rfl, h1⟩
  obtain ⟨hc1, hf1⟩ := bcell h1
  have hz1 := h1.size
  (try simp at hz1)
  have RB1 : Two w1 (w.heap.size + 1) (0) (0) := (by repeat (with_reducible first | exact RB | refine t_o ?_ _ | refine Two.alloc ?_ _ | refine Two.drewN ?_ _ | refine Two.drew ?_ | refine Two.below ?_ h1))
  have RB1_0 := RB1.c0
  have RB1_1 := RB1.c1
  have RB1_z := RB1.fz
  have RB1_l := RB1.lt
  clear hc1 hf1
  go_wp2
  all_goals
    first
      | (refine bodyPost_ret (v := .tuple #[.agg #[.int .i64 (wayX (R)), .int .i64 (wayK (R))], .bool (wayZ (R))]) (by simp [results, Tryz.results169, go_sem, RB1_0, RB1_1, RB1_z, RB1_l]) rfl ⟨rfl, ?_⟩ <;> repeat (with_reducible first | exact Below.refl _ _ | refine b_s ?_ _ | refine b_a ?_ _ | refine Below.drew ?_ | refine below_drewN ?_ _ | refine b_t ?_ h1))
theorem sGo_108 (s : ByteArray) (p n : Int) (v c : Bool) (w : World) (R : Int × Int × Bool)
    (HG : Hid (∀ ww, Calls Tryz.prog 205 #[.agg #[.string s, .int .i64 (p), .int .i64 (n), .bool v, .bool c], .int .u8 108] ww fun e w' => e = .returned (.tuple #[.agg #[.int .i64 (wayX (R)), .int .i64 (wayK (R))], .bool (wayZ (R))]) ∧ Below ww.heap.size ww w')) :
    Calls Tryz.prog 169 #[.int .u8 108, .agg #[.string s, .int .i64 (p), .int .i64 (n), .bool v, .bool c]] w fun e w' => e = .returned (.tuple #[.agg #[.int .i64 (wayX (R)), .int .i64 (wayK (R))], .bool (wayZ (R))]) ∧ Below w.heap.size w w' := by
  go_enter Tryz.func169, Tryz.ntmps169
  have RB : Two ((w.alloc (.cells #[.string s, .int .i64 (p), .int .i64 (n), .bool v, .bool c] 206)).alloc (.cells #[.int .i64 0, .int .i64 0] 202)) (w.heap.size + 1) 0 0 := by have := Two.new (w.alloc (.cells #[.string s, .int .i64 (p), .int .i64 (n), .bool v, .bool c] 206)) 0 0 202; simpa using this
  go_wp2_with fail
  refine (HG.out _).mono ?_
  rintro r1 w1 ⟨rfl, h1⟩
  obtain ⟨hc1, hf1⟩ := bcell h1
  have hz1 := h1.size
  (try simp at hz1)
  have RB1 : Two w1 (w.heap.size + 1) (0) (0) := (by repeat (with_reducible first | exact RB | refine t_o ?_ _ | refine Two.alloc ?_ _ | refine Two.drewN ?_ _ | refine Two.drew ?_ | refine Two.below ?_ h1))
  have RB1_0 := RB1.c0
  have RB1_1 := RB1.c1
  have RB1_z := RB1.fz
  have RB1_l := RB1.lt
  clear hc1 hf1
  go_wp2
  all_goals
    first
      | (refine bodyPost_ret (v := .tuple #[.agg #[.int .i64 (wayX (R)), .int .i64 (wayK (R))], .bool (wayZ (R))]) (by simp [results, Tryz.results169, go_sem, RB1_0, RB1_1, RB1_z, RB1_l]) rfl ⟨rfl, ?_⟩ <;> repeat (with_reducible first | exact Below.refl _ _ | refine b_s ?_ _ | refine b_a ?_ _ | refine Below.drew ?_ | refine below_drewN ?_ _ | refine b_t ?_ h1))
theorem sGo_48 (s : ByteArray) (p n : Int) (v c : Bool) (w : World) (R : Int × Int × Bool)
    (HG : Hid (∀ ww, Calls Tryz.prog 205 #[.agg #[.string s, .int .i64 (p), .int .i64 (n), .bool v, .bool c], .int .u8 48] ww fun e w' => e = .returned (.tuple #[.agg #[.int .i64 (wayX (R)), .int .i64 (wayK (R))], .bool (wayZ (R))]) ∧ Below ww.heap.size ww w')) :
    Calls Tryz.prog 169 #[.int .u8 48, .agg #[.string s, .int .i64 (p), .int .i64 (n), .bool v, .bool c]] w fun e w' => e = .returned (.tuple #[.agg #[.int .i64 (wayX (R)), .int .i64 (wayK (R))], .bool (wayZ (R))]) ∧ Below w.heap.size w w' := by
  go_enter Tryz.func169, Tryz.ntmps169
  have RB : Two ((w.alloc (.cells #[.string s, .int .i64 (p), .int .i64 (n), .bool v, .bool c] 206)).alloc (.cells #[.int .i64 0, .int .i64 0] 202)) (w.heap.size + 1) 0 0 := by have := Two.new (w.alloc (.cells #[.string s, .int .i64 (p), .int .i64 (n), .bool v, .bool c] 206)) 0 0 202; simpa using this
  go_wp2_with fail
  refine (HG.out _).mono ?_
  rintro r1 w1 ⟨rfl, h1⟩
  obtain ⟨hc1, hf1⟩ := bcell h1
  have hz1 := h1.size
  (try simp at hz1)
  have RB1 : Two w1 (w.heap.size + 1) (0) (0) := (by repeat (with_reducible first | exact RB | refine t_o ?_ _ | refine Two.alloc ?_ _ | refine Two.drewN ?_ _ | refine Two.drew ?_ | refine Two.below ?_ h1))
  have RB1_0 := RB1.c0
  have RB1_1 := RB1.c1
  have RB1_z := RB1.fz
  have RB1_l := RB1.lt
  clear hc1 hf1
  go_wp2
  all_goals
    first
      | (refine bodyPost_ret (v := .tuple #[.agg #[.int .i64 (wayX (R)), .int .i64 (wayK (R))], .bool (wayZ (R))]) (by simp [results, Tryz.results169, go_sem, RB1_0, RB1_1, RB1_z, RB1_l]) rfl ⟨rfl, ?_⟩ <;> repeat (with_reducible first | exact Below.refl _ _ | refine b_s ?_ _ | refine b_a ?_ _ | refine Below.drew ?_ | refine below_drewN ?_ _ | refine b_t ?_ h1))
theorem sGo_94 (s : ByteArray) (p n : Int) (v c : Bool) (w : World) (R : Int × Int × Bool)
    (HG : Hid (∀ ww, Calls Tryz.prog 205 #[.agg #[.string s, .int .i64 (p), .int .i64 (n), .bool v, .bool c], .int .u8 94] ww fun e w' => e = .returned (.tuple #[.agg #[.int .i64 (wayX (R)), .int .i64 (wayK (R))], .bool (wayZ (R))]) ∧ Below ww.heap.size ww w')) :
    Calls Tryz.prog 169 #[.int .u8 94, .agg #[.string s, .int .i64 (p), .int .i64 (n), .bool v, .bool c]] w fun e w' => e = .returned (.tuple #[.agg #[.int .i64 (wayX (R)), .int .i64 (wayK (R))], .bool (wayZ (R))]) ∧ Below w.heap.size w w' := by
  go_enter Tryz.func169, Tryz.ntmps169
  have RB : Two ((w.alloc (.cells #[.string s, .int .i64 (p), .int .i64 (n), .bool v, .bool c] 206)).alloc (.cells #[.int .i64 0, .int .i64 0] 202)) (w.heap.size + 1) 0 0 := by have := Two.new (w.alloc (.cells #[.string s, .int .i64 (p), .int .i64 (n), .bool v, .bool c] 206)) 0 0 202; simpa using this
  go_wp2_with fail
  refine (HG.out _).mono ?_
  rintro r1 w1 ⟨rfl, h1⟩
  obtain ⟨hc1, hf1⟩ := bcell h1
  have hz1 := h1.size
  (try simp at hz1)
  have RB1 : Two w1 (w.heap.size + 1) (0) (0) := (by repeat (with_reducible first | exact RB | refine t_o ?_ _ | refine Two.alloc ?_ _ | refine Two.drewN ?_ _ | refine Two.drew ?_ | refine Two.below ?_ h1))
  have RB1_0 := RB1.c0
  have RB1_1 := RB1.c1
  have RB1_z := RB1.fz
  have RB1_l := RB1.lt
  clear hc1 hf1
  go_wp2
  all_goals
    first
      | (refine bodyPost_ret (v := .tuple #[.agg #[.int .i64 (wayX (R)), .int .i64 (wayK (R))], .bool (wayZ (R))]) (by simp [results, Tryz.results169, go_sem, RB1_0, RB1_1, RB1_z, RB1_l]) rfl ⟨rfl, ?_⟩ <;> repeat (with_reducible first | exact Below.refl _ _ | refine b_s ?_ _ | refine b_a ?_ _ | refine Below.drew ?_ | refine below_drewN ?_ _ | refine b_t ?_ h1))
theorem sGo_36 (s : ByteArray) (p n : Int) (v c : Bool) (w : World) (R : Int × Int × Bool)
    (HG : Hid (∀ ww, Calls Tryz.prog 205 #[.agg #[.string s, .int .i64 (p), .int .i64 (n), .bool v, .bool c], .int .u8 36] ww fun e w' => e = .returned (.tuple #[.agg #[.int .i64 (wayX (R)), .int .i64 (wayK (R))], .bool (wayZ (R))]) ∧ Below ww.heap.size ww w')) :
    Calls Tryz.prog 169 #[.int .u8 36, .agg #[.string s, .int .i64 (p), .int .i64 (n), .bool v, .bool c]] w fun e w' => e = .returned (.tuple #[.agg #[.int .i64 (wayX (R)), .int .i64 (wayK (R))], .bool (wayZ (R))]) ∧ Below w.heap.size w w' := by
  go_enter Tryz.func169, Tryz.ntmps169
  have RB : Two ((w.alloc (.cells #[.string s, .int .i64 (p), .int .i64 (n), .bool v, .bool c] 206)).alloc (.cells #[.int .i64 0, .int .i64 0] 202)) (w.heap.size + 1) 0 0 := by have := Two.new (w.alloc (.cells #[.string s, .int .i64 (p), .int .i64 (n), .bool v, .bool c] 206)) 0 0 202; simpa using this
  go_wp2_with fail
  refine (HG.out _).mono ?_
  rintro r1 w1 ⟨rfl, h1⟩
  obtain ⟨hc1, hf1⟩ := bcell h1
  have hz1 := h1.size
  (try simp at hz1)
  have RB1 : Two w1 (w.heap.size + 1) (0) (0) := (by repeat (with_reducible first | exact RB | refine t_o ?_ _ | refine Two.alloc ?_ _ | refine Two.drewN ?_ _ | refine Two.drew ?_ | refine Two.below ?_ h1))
  have RB1_0 := RB1.c0
  have RB1_1 := RB1.c1
  have RB1_z := RB1.fz
  have RB1_l := RB1.lt
  clear hc1 hf1
  go_wp2
  all_goals
    first
      | (refine bodyPost_ret (v := .tuple #[.agg #[.int .i64 (wayX (R)), .int .i64 (wayK (R))], .bool (wayZ (R))]) (by simp [results, Tryz.results169, go_sem, RB1_0, RB1_1, RB1_z, RB1_l]) rfl ⟨rfl, ?_⟩ <;> repeat (with_reducible first | exact Below.refl _ _ | refine b_s ?_ _ | refine b_a ?_ _ | refine Below.drew ?_ | refine below_drewN ?_ _ | refine b_t ?_ h1))
theorem sGo_106 (s : ByteArray) (p n : Int) (v c : Bool) (w : World) (R : Int × Int × Bool)
    (HG : Hid (∀ ww, Calls Tryz.prog 206 #[.agg #[.string s, .int .i64 (p), .int .i64 (n), .bool v, .bool c], .int .u8 106] ww fun e w' => e = .returned (.tuple #[.agg #[.int .i64 (wayX (R)), .int .i64 (wayK (R))], .bool (wayZ (R))]) ∧ Below ww.heap.size ww w')) :
    Calls Tryz.prog 169 #[.int .u8 106, .agg #[.string s, .int .i64 (p), .int .i64 (n), .bool v, .bool c]] w fun e w' => e = .returned (.tuple #[.agg #[.int .i64 (wayX (R)), .int .i64 (wayK (R))], .bool (wayZ (R))]) ∧ Below w.heap.size w w' := by
  go_enter Tryz.func169, Tryz.ntmps169
  have RB : Two ((w.alloc (.cells #[.string s, .int .i64 (p), .int .i64 (n), .bool v, .bool c] 206)).alloc (.cells #[.int .i64 0, .int .i64 0] 202)) (w.heap.size + 1) 0 0 := by have := Two.new (w.alloc (.cells #[.string s, .int .i64 (p), .int .i64 (n), .bool v, .bool c] 206)) 0 0 202; simpa using this
  go_wp2_with fail
  refine (HG.out _).mono ?_
  rintro r1 w1 ⟨rfl, h1⟩
  obtain ⟨hc1, hf1⟩ := bcell h1
  have hz1 := h1.size
  (try simp at hz1)
  have RB1 : Two w1 (w.heap.size + 1) (0) (0) := (by repeat (with_reducible first | exact RB | refine t_o ?_ _ | refine Two.alloc ?_ _ | refine Two.drewN ?_ _ | refine Two.drew ?_ | refine Two.below ?_ h1))
  have RB1_0 := RB1.c0
  have RB1_1 := RB1.c1
  have RB1_z := RB1.fz
  have RB1_l := RB1.lt
  clear hc1 hf1
  go_wp2
  all_goals
    first
      | (refine bodyPost_ret (v := .tuple #[.agg #[.int .i64 (wayX (R)), .int .i64 (wayK (R))], .bool (wayZ (R))]) (by simp [results, Tryz.results169, go_sem, RB1_0, RB1_1, RB1_z, RB1_l]) rfl ⟨rfl, ?_⟩ <;> repeat (with_reducible first | exact Below.refl _ _ | refine b_s ?_ _ | refine b_a ?_ _ | refine Below.drew ?_ | refine below_drewN ?_ _ | refine b_t ?_ h1))
theorem sGo_107 (s : ByteArray) (p n : Int) (v c : Bool) (w : World) (R : Int × Int × Bool)
    (HG : Hid (∀ ww, Calls Tryz.prog 206 #[.agg #[.string s, .int .i64 (p), .int .i64 (n), .bool v, .bool c], .int .u8 107] ww fun e w' => e = .returned (.tuple #[.agg #[.int .i64 (wayX (R)), .int .i64 (wayK (R))], .bool (wayZ (R))]) ∧ Below ww.heap.size ww w')) :
    Calls Tryz.prog 169 #[.int .u8 107, .agg #[.string s, .int .i64 (p), .int .i64 (n), .bool v, .bool c]] w fun e w' => e = .returned (.tuple #[.agg #[.int .i64 (wayX (R)), .int .i64 (wayK (R))], .bool (wayZ (R))]) ∧ Below w.heap.size w w' := by
  go_enter Tryz.func169, Tryz.ntmps169
  have RB : Two ((w.alloc (.cells #[.string s, .int .i64 (p), .int .i64 (n), .bool v, .bool c] 206)).alloc (.cells #[.int .i64 0, .int .i64 0] 202)) (w.heap.size + 1) 0 0 := by have := Two.new (w.alloc (.cells #[.string s, .int .i64 (p), .int .i64 (n), .bool v, .bool c] 206)) 0 0 202; simpa using this
  go_wp2_with fail
  refine (HG.out _).mono ?_
  rintro r1 w1 ⟨rfl, h1⟩
  obtain ⟨hc1, hf1⟩ := bcell h1
  have hz1 := h1.size
  (try simp at hz1)
  have RB1 : Two w1 (w.heap.size + 1) (0) (0) := (by repeat (with_reducible first | exact RB | refine t_o ?_ _ | refine Two.alloc ?_ _ | refine Two.drewN ?_ _ | refine Two.drew ?_ | refine Two.below ?_ h1))
  have RB1_0 := RB1.c0
  have RB1_1 := RB1.c1
  have RB1_z := RB1.fz
  have RB1_l := RB1.lt
  clear hc1 hf1
  go_wp2
  all_goals
    first
      | (refine bodyPost_ret (v := .tuple #[.agg #[.int .i64 (wayX (R)), .int .i64 (wayK (R))], .bool (wayZ (R))]) (by simp [results, Tryz.results169, go_sem, RB1_0, RB1_1, RB1_z, RB1_l]) rfl ⟨rfl, ?_⟩ <;> repeat (with_reducible first | exact Below.refl _ _ | refine b_s ?_ _ | refine b_a ?_ _ | refine Below.drew ?_ | refine below_drewN ?_ _ | refine b_t ?_ h1))
theorem sGo_71 (s : ByteArray) (p n : Int) (v c : Bool) (w : World) (R : Int × Int × Bool)
    (HG : Hid (∀ ww, Calls Tryz.prog 207 #[.agg #[.string s, .int .i64 (p), .int .i64 (n), .bool v, .bool c], .int .u8 71] ww fun e w' => e = .returned (.tuple #[.agg #[.int .i64 (wayX (R)), .int .i64 (wayK (R))], .bool (wayZ (R))]) ∧ Below ww.heap.size ww w')) :
    Calls Tryz.prog 169 #[.int .u8 71, .agg #[.string s, .int .i64 (p), .int .i64 (n), .bool v, .bool c]] w fun e w' => e = .returned (.tuple #[.agg #[.int .i64 (wayX (R)), .int .i64 (wayK (R))], .bool (wayZ (R))]) ∧ Below w.heap.size w w' := by
  go_enter Tryz.func169, Tryz.ntmps169
  have RB : Two ((w.alloc (.cells #[.string s, .int .i64 (p), .int .i64 (n), .bool v, .bool c] 206)).alloc (.cells #[.int .i64 0, .int .i64 0] 202)) (w.heap.size + 1) 0 0 := by have := Two.new (w.alloc (.cells #[.string s, .int .i64 (p), .int .i64 (n), .bool v, .bool c] 206)) 0 0 202; simpa using this
  go_wp2_with fail
  refine (HG.out _).mono ?_
  rintro r1 w1 ⟨rfl, h1⟩
  obtain ⟨hc1, hf1⟩ := bcell h1
  have hz1 := h1.size
  (try simp at hz1)
  have RB1 : Two w1 (w.heap.size + 1) (0) (0) := (by repeat (with_reducible first | exact RB | refine t_o ?_ _ | refine Two.alloc ?_ _ | refine Two.drewN ?_ _ | refine Two.drew ?_ | refine Two.below ?_ h1))
  have RB1_0 := RB1.c0
  have RB1_1 := RB1.c1
  have RB1_z := RB1.fz
  have RB1_l := RB1.lt
  clear hc1 hf1
  go_wp2
  all_goals
    first
      | (refine bodyPost_ret (v := .tuple #[.agg #[.int .i64 (wayX (R)), .int .i64 (wayK (R))], .bool (wayZ (R))]) (by simp [results, Tryz.results169, go_sem, RB1_0, RB1_1, RB1_z, RB1_l]) rfl ⟨rfl, ?_⟩ <;> repeat (with_reducible first | exact Below.refl _ _ | refine b_s ?_ _ | refine b_a ?_ _ | refine Below.drew ?_ | refine below_drewN ?_ _ | refine b_t ?_ h1))
theorem sGo_103 (s : ByteArray) (p n : Int) (v c : Bool) (w : World) (R : Int × Int × Bool)
    (HG : Hid (∀ ww, Calls Tryz.prog 207 #[.agg #[.string s, .int .i64 (p), .int .i64 (n), .bool v, .bool c], .int .u8 103] ww fun e w' => e = .returned (.tuple #[.agg #[.int .i64 (wayX (R)), .int .i64 (wayK (R))], .bool (wayZ (R))]) ∧ Below ww.heap.size ww w')) :
    Calls Tryz.prog 169 #[.int .u8 103, .agg #[.string s, .int .i64 (p), .int .i64 (n), .bool v, .bool c]] w fun e w' => e = .returned (.tuple #[.agg #[.int .i64 (wayX (R)), .int .i64 (wayK (R))], .bool (wayZ (R))]) ∧ Below w.heap.size w w' := by
  go_enter Tryz.func169, Tryz.ntmps169
  have RB : Two ((w.alloc (.cells #[.string s, .int .i64 (p), .int .i64 (n), .bool v, .bool c] 206)).alloc (.cells #[.int .i64 0, .int .i64 0] 202)) (w.heap.size + 1) 0 0 := by have := Two.new (w.alloc (.cells #[.string s, .int .i64 (p), .int .i64 (n), .bool v, .bool c] 206)) 0 0 202; simpa using this
  go_wp2_with fail
  refine (HG.out _).mono ?_
  rintro r1 w1 ⟨rfl, h1⟩
  obtain ⟨hc1, hf1⟩ := bcell h1
  have hz1 := h1.size
  (try simp at hz1)
  have RB1 : Two w1 (w.heap.size + 1) (0) (0) := (by repeat (with_reducible first | exact RB | refine t_o ?_ _ | refine Two.alloc ?_ _ | refine Two.drewN ?_ _ | refine Two.drew ?_ | refine Two.below ?_ h1))
  have RB1_0 := RB1.c0
  have RB1_1 := RB1.c1
  have RB1_z := RB1.fz
  have RB1_l := RB1.lt
  clear hc1 hf1
  go_wp2
  all_goals
    first
      | (refine bodyPost_ret (v := .tuple #[.agg #[.int .i64 (wayX (R)), .int .i64 (wayK (R))], .bool (wayZ (R))]) (by simp [results, Tryz.results169, go_sem, RB1_0, RB1_1, RB1_z, RB1_l]) rfl ⟨rfl, ?_⟩ <;> repeat (with_reducible first | exact Below.refl _ _ | refine b_s ?_ _ | refine b_a ?_ _ | refine Below.drew ?_ | refine below_drewN ?_ _ | refine b_t ?_ h1))
theorem sGo_119 (s : ByteArray) (p n : Int) (v c : Bool) (w : World) (R : Int × Int × Bool)
    (HG : Hid (∀ ww, Calls Tryz.prog 208 #[.agg #[.string s, .int .i64 (p), .int .i64 (n), .bool v, .bool c], .bool false] ww fun e w' => e = .returned (.tuple #[.agg #[.int .i64 (wayX (R)), .int .i64 (wayK (R))], .bool (wayZ (R))]) ∧ Below ww.heap.size ww w')) :
    Calls Tryz.prog 169 #[.int .u8 119, .agg #[.string s, .int .i64 (p), .int .i64 (n), .bool v, .bool c]] w fun e w' => e = .returned (.tuple #[.agg #[.int .i64 (wayX (R)), .int .i64 (wayK (R))], .bool (wayZ (R))]) ∧ Below w.heap.size w w' := by
  go_enter Tryz.func169, Tryz.ntmps169
  have RB : Two ((w.alloc (.cells #[.string s, .int .i64 (p), .int .i64 (n), .bool v, .bool c] 206)).alloc (.cells #[.int .i64 0, .int .i64 0] 202)) (w.heap.size + 1) 0 0 := by have := Two.new (w.alloc (.cells #[.string s, .int .i64 (p), .int .i64 (n), .bool v, .bool c] 206)) 0 0 202; simpa using this
  go_wp2_with fail
  refine (HG.out _).mono ?_
  rintro r1 w1 ⟨rfl, h1⟩
  obtain ⟨hc1, hf1⟩ := bcell h1
  have hz1 := h1.size
  (try simp at hz1)
  have RB1 : Two w1 (w.heap.size + 1) (0) (0) := (by repeat (with_reducible first | exact RB | refine t_o ?_ _ | refine Two.alloc ?_ _ | refine Two.drewN ?_ _ | refine Two.drew ?_ | refine Two.below ?_ h1))
  have RB1_0 := RB1.c0
  have RB1_1 := RB1.c1
  have RB1_z := RB1.fz
  have RB1_l := RB1.lt
  clear hc1 hf1
  go_wp2
  all_goals
    first
      | (refine bodyPost_ret (v := .tuple #[.agg #[.int .i64 (wayX (R)), .int .i64 (wayK (R))], .bool (wayZ (R))]) (by simp [results, Tryz.results169, go_sem, RB1_0, RB1_1, RB1_z, RB1_l]) rfl ⟨rfl, ?_⟩ <;> repeat (with_reducible first | exact Below.refl _ _ | refine b_s ?_ _ | refine b_a ?_ _ | refine Below.drew ?_ | refine below_drewN ?_ _ | refine b_t ?_ h1))
theorem sGo_87 (s : ByteArray) (p n : Int) (v c : Bool) (w : World) (R : Int × Int × Bool)
    (HG : Hid (∀ ww, Calls Tryz.prog 208 #[.agg #[.string s, .int .i64 (p), .int .i64 (n), .bool v, .bool c], .bool true] ww fun e w' => e = .returned (.tuple #[.agg #[.int .i64 (wayX (R)), .int .i64 (wayK (R))], .bool (wayZ (R))]) ∧ Below ww.heap.size ww w')) :
    Calls Tryz.prog 169 #[.int .u8 87, .agg #[.string s, .int .i64 (p), .int .i64 (n), .bool v, .bool c]] w fun e w' => e = .returned (.tuple #[.agg #[.int .i64 (wayX (R)), .int .i64 (wayK (R))], .bool (wayZ (R))]) ∧ Below w.heap.size w w' := by
  go_enter Tryz.func169, Tryz.ntmps169
  have RB : Two ((w.alloc (.cells #[.string s, .int .i64 (p), .int .i64 (n), .bool v, .bool c] 206)).alloc (.cells #[.int .i64 0, .int .i64 0] 202)) (w.heap.size + 1) 0 0 := by have := Two.new (w.alloc (.cells #[.string s, .int .i64 (p), .int .i64 (n), .bool v, .bool c] 206)) 0 0 202; simpa using this
  go_wp2_with fail
  refine (HG.out _).mono ?_
  rintro r1 w1 ⟨rfl, h1⟩
  obtain ⟨hc1, hf1⟩ := bcell h1
  have hz1 := h1.size
  (try simp at hz1)
  have RB1 : Two w1 (w.heap.size + 1) (0) (0) := (by repeat (with_reducible first | exact RB | refine t_o ?_ _ | refine Two.alloc ?_ _ | refine Two.drewN ?_ _ | refine Two.drew ?_ | refine Two.below ?_ h1))
  have RB1_0 := RB1.c0
  have RB1_1 := RB1.c1
  have RB1_z := RB1.fz
  have RB1_l := RB1.lt
  clear hc1 hf1
  go_wp2
  all_goals
    first
      | (refine bodyPost_ret (v := .tuple #[.agg #[.int .i64 (wayX (R)), .int .i64 (wayK (R))], .bool (wayZ (R))]) (by simp [results, Tryz.results169, go_sem, RB1_0, RB1_1, RB1_z, RB1_l]) rfl ⟨rfl, ?_⟩ <;> repeat (with_reducible first | exact Below.refl _ _ | refine b_s ?_ _ | refine b_a ?_ _ | refine Below.drew ?_ | refine below_drewN ?_ _ | refine b_t ?_ h1))
theorem sGo_98 (s : ByteArray) (p n : Int) (v c : Bool) (w : World) (R : Int × Int × Bool)
    (HG : Hid (∀ ww, Calls Tryz.prog 209 #[.agg #[.string s, .int .i64 (p), .int .i64 (n), .bool v, .bool c], .bool false] ww fun e w' => e = .returned (.tuple #[.agg #[.int .i64 (wayX (R)), .int .i64 (wayK (R))], .bool (wayZ (R))]) ∧ Below ww.heap.size ww w')) :
    Calls Tryz.prog 169 #[.int .u8 98, .agg #[.string s, .int .i64 (p), .int .i64 (n), .bool v, .bool c]] w fun e w' => e = .returned (.tuple #[.agg #[.int .i64 (wayX (R)), .int .i64 (wayK (R))], .bool (wayZ (R))]) ∧ Below w.heap.size w w' := by
  go_enter Tryz.func169, Tryz.ntmps169
  have RB : Two ((w.alloc (.cells #[.string s, .int .i64 (p), .int .i64 (n), .bool v, .bool c] 206)).alloc (.cells #[.int .i64 0, .int .i64 0] 202)) (w.heap.size + 1) 0 0 := by have := Two.new (w.alloc (.cells #[.string s, .int .i64 (p), .int .i64 (n), .bool v, .bool c] 206)) 0 0 202; simpa using this
  go_wp2_with fail
  refine (HG.out _).mono ?_
  rintro r1 w1 ⟨rfl, h1⟩
  obtain ⟨hc1, hf1⟩ := bcell h1
  have hz1 := h1.size
  (try simp at hz1)
  have RB1 : Two w1 (w.heap.size + 1) (0) (0) := (by repeat (with_reducible first | exact RB | refine t_o ?_ _ | refine Two.alloc ?_ _ | refine Two.drewN ?_ _ | refine Two.drew ?_ | refine Two.below ?_ h1))
  have RB1_0 := RB1.c0
  have RB1_1 := RB1.c1
  have RB1_z := RB1.fz
  have RB1_l := RB1.lt
  clear hc1 hf1
  go_wp2
  all_goals
    first
      | (refine bodyPost_ret (v := .tuple #[.agg #[.int .i64 (wayX (R)), .int .i64 (wayK (R))], .bool (wayZ (R))]) (by simp [results, Tryz.results169, go_sem, RB1_0, RB1_1, RB1_z, RB1_l]) rfl ⟨rfl, ?_⟩ <;> repeat (with_reducible first | exact Below.refl _ _ | refine b_s ?_ _ | refine b_a ?_ _ | refine Below.drew ?_ | refine below_drewN ?_ _ | refine b_t ?_ h1))
theorem sGo_66 (s : ByteArray) (p n : Int) (v c : Bool) (w : World) (R : Int × Int × Bool)
    (HG : Hid (∀ ww, Calls Tryz.prog 209 #[.agg #[.string s, .int .i64 (p), .int .i64 (n), .bool v, .bool c], .bool true] ww fun e w' => e = .returned (.tuple #[.agg #[.int .i64 (wayX (R)), .int .i64 (wayK (R))], .bool (wayZ (R))]) ∧ Below ww.heap.size ww w')) :
    Calls Tryz.prog 169 #[.int .u8 66, .agg #[.string s, .int .i64 (p), .int .i64 (n), .bool v, .bool c]] w fun e w' => e = .returned (.tuple #[.agg #[.int .i64 (wayX (R)), .int .i64 (wayK (R))], .bool (wayZ (R))]) ∧ Below w.heap.size w w' := by
  go_enter Tryz.func169, Tryz.ntmps169
  have RB : Two ((w.alloc (.cells #[.string s, .int .i64 (p), .int .i64 (n), .bool v, .bool c] 206)).alloc (.cells #[.int .i64 0, .int .i64 0] 202)) (w.heap.size + 1) 0 0 := by have := Two.new (w.alloc (.cells #[.string s, .int .i64 (p), .int .i64 (n), .bool v, .bool c] 206)) 0 0 202; simpa using this
  go_wp2_with fail
  refine (HG.out _).mono ?_
  rintro r1 w1 ⟨rfl, h1⟩
  obtain ⟨hc1, hf1⟩ := bcell h1
  have hz1 := h1.size
  (try simp at hz1)
  have RB1 : Two w1 (w.heap.size + 1) (0) (0) := (by repeat (with_reducible first | exact RB | refine t_o ?_ _ | refine Two.alloc ?_ _ | refine Two.drewN ?_ _ | refine Two.drew ?_ | refine Two.below ?_ h1))
  have RB1_0 := RB1.c0
  have RB1_1 := RB1.c1
  have RB1_z := RB1.fz
  have RB1_l := RB1.lt
  clear hc1 hf1
  go_wp2
  all_goals
    first
      | (refine bodyPost_ret (v := .tuple #[.agg #[.int .i64 (wayX (R)), .int .i64 (wayK (R))], .bool (wayZ (R))]) (by simp [results, Tryz.results169, go_sem, RB1_0, RB1_1, RB1_z, RB1_l]) rfl ⟨rfl, ?_⟩ <;> repeat (with_reducible first | exact Below.refl _ _ | refine b_s ?_ _ | refine b_a ?_ _ | refine Below.drew ?_ | refine below_drewN ?_ _ | refine b_t ?_ h1))
theorem sGo_101 (s : ByteArray) (p n : Int) (v c : Bool) (w : World) (R : Int × Int × Bool)
    (HG : Hid (∀ ww, Calls Tryz.prog 210 #[.agg #[.string s, .int .i64 (p), .int .i64 (n), .bool v, .bool c], .bool false] ww fun e w' => e = .returned (.tuple #[.agg #[.int .i64 (wayX (R)), .int .i64 (wayK (R))], .bool (wayZ (R))]) ∧ Below ww.heap.size ww w')) :
    Calls Tryz.prog 169 #[.int .u8 101, .agg #[.string s, .int .i64 (p), .int .i64 (n), .bool v, .bool c]] w fun e w' => e = .returned (.tuple #[.agg #[.int .i64 (wayX (R)), .int .i64 (wayK (R))], .bool (wayZ (R))]) ∧ Below w.heap.size w w' := by
  go_enter Tryz.func169, Tryz.ntmps169
  have RB : Two ((w.alloc (.cells #[.string s, .int .i64 (p), .int .i64 (n), .bool v, .bool c] 206)).alloc (.cells #[.int .i64 0, .int .i64 0] 202)) (w.heap.size + 1) 0 0 := by have := Two.new (w.alloc (.cells #[.string s, .int .i64 (p), .int .i64 (n), .bool v, .bool c] 206)) 0 0 202; simpa using this
  go_wp2_with fail
  refine (HG.out _).mono ?_
  rintro r1 w1 ⟨rfl, h1⟩
  obtain ⟨hc1, hf1⟩ := bcell h1
  have hz1 := h1.size
  (try simp at hz1)
  have RB1 : Two w1 (w.heap.size + 1) (0) (0) := (by repeat (with_reducible first | exact RB | refine t_o ?_ _ | refine Two.alloc ?_ _ | refine Two.drewN ?_ _ | refine Two.drew ?_ | refine Two.below ?_ h1))
  have RB1_0 := RB1.c0
  have RB1_1 := RB1.c1
  have RB1_z := RB1.fz
  have RB1_l := RB1.lt
  clear hc1 hf1
  go_wp2
  all_goals
    first
      | (refine bodyPost_ret (v := .tuple #[.agg #[.int .i64 (wayX (R)), .int .i64 (wayK (R))], .bool (wayZ (R))]) (by simp [results, Tryz.results169, go_sem, RB1_0, RB1_1, RB1_z, RB1_l]) rfl ⟨rfl, ?_⟩ <;> repeat (with_reducible first | exact Below.refl _ _ | refine b_s ?_ _ | refine b_a ?_ _ | refine Below.drew ?_ | refine below_drewN ?_ _ | refine b_t ?_ h1))
theorem sGo_69 (s : ByteArray) (p n : Int) (v c : Bool) (w : World) (R : Int × Int × Bool)
    (HG : Hid (∀ ww, Calls Tryz.prog 210 #[.agg #[.string s, .int .i64 (p), .int .i64 (n), .bool v, .bool c], .bool true] ww fun e w' => e = .returned (.tuple #[.agg #[.int .i64 (wayX (R)), .int .i64 (wayK (R))], .bool (wayZ (R))]) ∧ Below ww.heap.size ww w')) :
    Calls Tryz.prog 169 #[.int .u8 69, .agg #[.string s, .int .i64 (p), .int .i64 (n), .bool v, .bool c]] w fun e w' => e = .returned (.tuple #[.agg #[.int .i64 (wayX (R)), .int .i64 (wayK (R))], .bool (wayZ (R))]) ∧ Below w.heap.size w w' := by
  go_enter Tryz.func169, Tryz.ntmps169
  have RB : Two ((w.alloc (.cells #[.string s, .int .i64 (p), .int .i64 (n), .bool v, .bool c] 206)).alloc (.cells #[.int .i64 0, .int .i64 0] 202)) (w.heap.size + 1) 0 0 := by have := Two.new (w.alloc (.cells #[.string s, .int .i64 (p), .int .i64 (n), .bool v, .bool c] 206)) 0 0 202; simpa using this
  go_wp2_with fail
  refine (HG.out _).mono ?_
  rintro r1 w1 ⟨rfl, h1⟩
  obtain ⟨hc1, hf1⟩ := bcell h1
  have hz1 := h1.size
  (try simp at hz1)
  have RB1 : Two w1 (w.heap.size + 1) (0) (0) := (by repeat (with_reducible first | exact RB | refine t_o ?_ _ | refine Two.alloc ?_ _ | refine Two.drewN ?_ _ | refine Two.drew ?_ | refine Two.below ?_ h1))
  have RB1_0 := RB1.c0
  have RB1_1 := RB1.c1
  have RB1_z := RB1.fz
  have RB1_l := RB1.lt
  clear hc1 hf1
  go_wp2
  all_goals
    first
      | (refine bodyPost_ret (v := .tuple #[.agg #[.int .i64 (wayX (R)), .int .i64 (wayK (R))], .bool (wayZ (R))]) (by simp [results, Tryz.results169, go_sem, RB1_0, RB1_1, RB1_z, RB1_l]) rfl ⟨rfl, ?_⟩ <;> repeat (with_reducible first | exact Below.refl _ _ | refine b_s ?_ _ | refine b_a ?_ _ | refine Below.drew ?_ | refine below_drewN ?_ _ | refine b_t ?_ h1))
theorem sGo_125 (s : ByteArray) (p n : Int) (v c : Bool) (w : World) (R : Int × Int × Bool)
    (HG : Hid (∀ ww, Calls Tryz.prog 211 #[.agg #[.string s, .int .i64 (p), .int .i64 (n), .bool v, .bool c], .int .i64 1] ww fun e w' => e = .returned (.tuple #[.agg #[.int .i64 (wayX (R)), .int .i64 (wayK (R))], .bool (wayZ (R))]) ∧ Below ww.heap.size ww w')) :
    Calls Tryz.prog 169 #[.int .u8 125, .agg #[.string s, .int .i64 (p), .int .i64 (n), .bool v, .bool c]] w fun e w' => e = .returned (.tuple #[.agg #[.int .i64 (wayX (R)), .int .i64 (wayK (R))], .bool (wayZ (R))]) ∧ Below w.heap.size w w' := by
  go_enter Tryz.func169, Tryz.ntmps169
  have RB : Two ((w.alloc (.cells #[.string s, .int .i64 (p), .int .i64 (n), .bool v, .bool c] 206)).alloc (.cells #[.int .i64 0, .int .i64 0] 202)) (w.heap.size + 1) 0 0 := by have := Two.new (w.alloc (.cells #[.string s, .int .i64 (p), .int .i64 (n), .bool v, .bool c] 206)) 0 0 202; simpa using this
  go_wp2_with fail
  refine (HG.out _).mono ?_
  rintro r1 w1 ⟨rfl, h1⟩
  obtain ⟨hc1, hf1⟩ := bcell h1
  have hz1 := h1.size
  (try simp at hz1)
  have RB1 : Two w1 (w.heap.size + 1) (0) (0) := (by repeat (with_reducible first | exact RB | refine t_o ?_ _ | refine Two.alloc ?_ _ | refine Two.drewN ?_ _ | refine Two.drew ?_ | refine Two.below ?_ h1))
  have RB1_0 := RB1.c0
  have RB1_1 := RB1.c1
  have RB1_z := RB1.fz
  have RB1_l := RB1.lt
  clear hc1 hf1
  go_wp2
  all_goals
    first
      | (refine bodyPost_ret (v := .tuple #[.agg #[.int .i64 (wayX (R)), .int .i64 (wayK (R))], .bool (wayZ (R))]) (by simp [results, Tryz.results169, go_sem, RB1_0, RB1_1, RB1_z, RB1_l]) rfl ⟨rfl, ?_⟩ <;> repeat (with_reducible first | exact Below.refl _ _ | refine b_s ?_ _ | refine b_a ?_ _ | refine Below.drew ?_ | refine below_drewN ?_ _ | refine b_t ?_ h1))
theorem sGo_123 (s : ByteArray) (p n : Int) (v c : Bool) (w : World) (R : Int × Int × Bool)
    (HG : Hid (∀ ww, Calls Tryz.prog 211 #[.agg #[.string s, .int .i64 (p), .int .i64 (n), .bool v, .bool c], .int .i64 (-1)] ww fun e w' => e = .returned (.tuple #[.agg #[.int .i64 (wayX (R)), .int .i64 (wayK (R))], .bool (wayZ (R))]) ∧ Below ww.heap.size ww w')) :
    Calls Tryz.prog 169 #[.int .u8 123, .agg #[.string s, .int .i64 (p), .int .i64 (n), .bool v, .bool c]] w fun e w' => e = .returned (.tuple #[.agg #[.int .i64 (wayX (R)), .int .i64 (wayK (R))], .bool (wayZ (R))]) ∧ Below w.heap.size w w' := by
  go_enter Tryz.func169, Tryz.ntmps169
  have RB : Two ((w.alloc (.cells #[.string s, .int .i64 (p), .int .i64 (n), .bool v, .bool c] 206)).alloc (.cells #[.int .i64 0, .int .i64 0] 202)) (w.heap.size + 1) 0 0 := by have := Two.new (w.alloc (.cells #[.string s, .int .i64 (p), .int .i64 (n), .bool v, .bool c] 206)) 0 0 202; simpa using this
  go_wp2_with fail
  refine (HG.out _).mono ?_
  rintro r1 w1 ⟨rfl, h1⟩
  obtain ⟨hc1, hf1⟩ := bcell h1
  have hz1 := h1.size
  (try simp at hz1)
  have RB1 : Two w1 (w.heap.size + 1) (0) (0) := (by repeat (with_reducible first | exact RB | refine t_o ?_ _ | refine Two.alloc ?_ _ | refine Two.drewN ?_ _ | refine Two.drew ?_ | refine Two.below ?_ h1))
  have RB1_0 := RB1.c0
  have RB1_1 := RB1.c1
  have RB1_z := RB1.fz
  have RB1_l := RB1.lt
  clear hc1 hf1
  go_wp2
  all_goals
    first
      | (refine bodyPost_ret (v := .tuple #[.agg #[.int .i64 (wayX (R)), .int .i64 (wayK (R))], .bool (wayZ (R))]) (by simp [results, Tryz.results169, go_sem, RB1_0, RB1_1, RB1_z, RB1_l]) rfl ⟨rfl, ?_⟩ <;> repeat (with_reducible first | exact Below.refl _ _ | refine b_s ?_ _ | refine b_a ?_ _ | refine Below.drew ?_ | refine below_drewN ?_ _ | refine b_t ?_ h1))
theorem sGo_37 (s : ByteArray) (p n : Int) (v c : Bool) (w : World) (R : Int × Int × Bool)
    (HG : Hid (∀ ww, Calls Tryz.prog 212 #[.agg #[.string s, .int .i64 (p), .int .i64 (n), .bool v, .bool c]] ww fun e w' => e = .returned (.tuple #[.agg #[.int .i64 (wayX (R)), .int .i64 (wayK (R))], .bool (wayZ (R))]) ∧ Below ww.heap.size ww w')) :
    Calls Tryz.prog 169 #[.int .u8 37, .agg #[.string s, .int .i64 (p), .int .i64 (n), .bool v, .bool c]] w fun e w' => e = .returned (.tuple #[.agg #[.int .i64 (wayX (R)), .int .i64 (wayK (R))], .bool (wayZ (R))]) ∧ Below w.heap.size w w' := by
  go_enter Tryz.func169, Tryz.ntmps169
  have RB : Two ((w.alloc (.cells #[.string s, .int .i64 (p), .int .i64 (n), .bool v, .bool c] 206)).alloc (.cells #[.int .i64 0, .int .i64 0] 202)) (w.heap.size + 1) 0 0 := by have := Two.new (w.alloc (.cells #[.string s, .int .i64 (p), .int .i64 (n), .bool v, .bool c] 206)) 0 0 202; simpa using this
  go_wp2_with fail
  refine (HG.out _).mono ?_
  rintro r1 w1 ⟨rfl, h1⟩
  obtain ⟨hc1, hf1⟩ := bcell h1
  have hz1 := h1.size
  (try simp at hz1)
  have RB1 : Two w1 (w.heap.size + 1) (0) (0) := (by repeat (with_reducible first | exact RB | refine t_o ?_ _ | refine Two.alloc ?_ _ | refine Two.drewN ?_ _ | refine Two.drew ?_ | refine Two.below ?_ h1))
  have RB1_0 := RB1.c0
  have RB1_1 := RB1.c1
  have RB1_z := RB1.fz
  have RB1_l := RB1.lt
  clear hc1 hf1
  go_wp2
  all_goals
    first
      | (refine bodyPost_ret (v := .tuple #[.agg #[.int .i64 (wayX (R)), .int .i64 (wayK (R))], .bool (wayZ (R))]) (by simp [results, Tryz.results169, go_sem, RB1_0, RB1_1, RB1_z, RB1_l]) rfl ⟨rfl, ?_⟩ <;> repeat (with_reducible first | exact Below.refl _ _ | refine b_s ?_ _ | refine b_a ?_ _ | refine Below.drew ?_ | refine below_drewN ?_ _ | refine b_t ?_ h1))
end Go.Proofs.YtlendfhehhacpaaGreat
