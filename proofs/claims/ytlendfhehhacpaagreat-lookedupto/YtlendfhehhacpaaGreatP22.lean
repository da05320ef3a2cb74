/- Joined of the texts WaysR. -/
import Derived.Test.YtlendfhehhacpaaGreatP21
set_option linter.unusedVariables false
set_option linter.unusedSimpArgs false
set_option maxRecDepth 100000
set_option maxHeartbeats 8000000
namespace Go.Proofs.YtlendfhehhacpaaGreat
open Go.RowKit
def isPlainWay (key : Int) : Bool := key == 104 || key == 108 || key == 48 || key == 94 || key == 36 || key == 106 || key == 107 || key == 71 || key == 103 || key == 119 || key == 87 || key == 98 || key == 66 || key == 101 || key == 69 || key == 125 || key == 123 || key == 37
theorem sGo_none (s : ByteArray) (p n key : Int) (v c : Bool) (w : World) (hk : isPlainWay key = false) :
    Calls Tryz.prog 169 #[.int .u8 key, .agg #[.string s, .int .i64 (p), .int .i64 (n), .bool v, .bool c]] w fun e w' => e = .returned (.tuple #[.agg #[.int .i64 (wayX (((0 : Int), (0 : Int), true))), .int .i64 (wayK (((0 : Int), (0 : Int), true)))], .bool (wayZ (((0 : Int), (0 : Int), true)))]) ∧ Below w.heap.size w w' := by
  rw [wayX_t, wayK_t, wayZ_t]
  simp only [isPlainWay, Bool.or_eq_false_iff] at hk
  obtain ⟨⟨⟨⟨⟨⟨⟨⟨⟨⟨⟨⟨⟨⟨⟨⟨⟨k0, k1⟩, k2⟩, k3⟩, k4⟩, k5⟩, k6⟩, k7⟩, k8⟩, k9⟩, k10⟩, k11⟩, k12⟩, k13⟩, k14⟩, k15⟩, k16⟩, k17⟩ := hk
  go_enter Tryz.func169, Tryz.ntmps169
  go_wp2
  all_goals
    first
      | (refine bodyPost_ret (v := .tuple #[.agg #[.int .i64 0, .int .i64 0], .bool false]) (by simp [results, Tryz.results169, go_sem]) rfl ⟨rfl, ?_⟩ <;> repeat (with_reducible first | exact Below.refl _ _ | refine b_s ?_ _ | refine b_a ?_ _ | refine Below.drew ?_ | refine below_drewN ?_ _))
theorem sTurned_102 (ch : Int) (w : World) :
    Calls Tryz.prog 184 #[.agg #[.int .u8 102, .int .u8 ch]] w fun e w' => e = .returned (.agg #[.int .u8 70, .int .u8 ch]) ∧ Below w.heap.size w w' := by
  go_enter Tryz.func184, Tryz.ntmps184
  go_wp2
  all_goals
    first
      | (refine bodyPost_ret (v := .agg #[.int .u8 70, .int .u8 ch]) (by simp [results, Tryz.results184, go_sem]) rfl ⟨rfl, ?_⟩ <;> repeat (with_reducible first | exact Below.refl _ _ | refine b_s ?_ _ | refine b_a ?_ _ | refine Below.drew ?_ | refine below_drewN ?_ _))
theorem sTurned_70 (ch : Int) (w : World) :
    Calls Tryz.prog 184 #[.agg #[.int .u8 70, .int .u8 ch]] w fun e w' => e = .returned (.agg #[.int .u8 102, .int .u8 ch]) ∧ Below w.heap.size w w' := by
  go_enter Tryz.func184, Tryz.ntmps184
  go_wp2
  all_goals
    first
      | (refine bodyPost_ret (v := .agg #[.int .u8 102, .int .u8 ch]) (by simp [results, Tryz.results184, go_sem]) rfl ⟨rfl, ?_⟩ <;> repeat (with_reducible first | exact Below.refl _ _ | refine b_s ?_ _ | refine b_a ?_ _ | refine Below.drew ?_ | refine below_drewN ?_ _))
theorem sTurned_116 (ch : Int) (w : World) :
    Calls Tryz.prog 184 #[.agg #[.int .u8 116, .int .u8 ch]] w fun e w' => e = .returned (.agg #[.int .u8 84, .int .u8 ch]) ∧ Below w.heap.size w w' := by
  go_enter Tryz.func184, Tryz.ntmps184
  go_wp2
  all_goals
    first
      | (refine bodyPost_ret (v := .agg #[.int .u8 84, .int .u8 ch]) (by simp [results, Tryz.results184, go_sem]) rfl ⟨rfl, ?_⟩ <;> repeat (with_reducible first | exact Below.refl _ _ | refine b_s ?_ _ | refine b_a ?_ _ | refine Below.drew ?_ | refine below_drewN ?_ _))
theorem sTurned_84 (ch : Int) (w : World) :
    Calls Tryz.prog 184 #[.agg #[.int .u8 84, .int .u8 ch]] w fun e w' => e = .returned (.agg #[.int .u8 116, .int .u8 ch]) ∧ Below w.heap.size w w' := by
  go_enter Tryz.func184, Tryz.ntmps184
  go_wp2
  all_goals
    first
      | (refine bodyPost_ret (v := .agg #[.int .u8 116, .int .u8 ch]) (by simp [results, Tryz.results184, go_sem]) rfl ⟨rfl, ?_⟩ <;> repeat (with_reducible first | exact Below.refl _ _ | refine b_s ?_ _ | refine b_a ?_ _ | refine Below.drew ?_ | refine below_drewN ?_ _))
theorem sTurned_0 (ch : Int) (w : World) :
    Calls Tryz.prog 184 #[.agg #[.int .u8 0, .int .u8 ch]] w fun e w' => e = .returned (.agg #[.int .u8 0, .int .u8 ch]) ∧ Below w.heap.size w w' := by
  go_enter Tryz.func184, Tryz.ntmps184
  go_wp2
  all_goals
    first
      | (refine bodyPost_ret (v := .agg #[.int .u8 0, .int .u8 ch]) (by simp [results, Tryz.results184, go_sem]) rfl ⟨rfl, ?_⟩ <;> repeat (with_reducible first | exact Below.refl _ _ | refine b_s ?_ _ | refine b_a ?_ _ | refine Below.drew ?_ | refine below_drewN ?_ _))
end Go.Proofs.YtlendfhehhacpaaGreat
