/- A part. -/
import Derived.Test.YtlendfhehhacpaaGreatRows
import Derived.Test.YtlendfhehhacpaaGreatR53
import Derived.ProofKit
import Derived.OpenShut
import Derived.JoinedOf
import Derived.Deep.Slices
import Derived.Deep.Strs
import Derived.Carry
set_option linter.unusedVariables false
set_option linter.unusedSimpArgs false
set_option maxRecDepth 100000
set_option maxHeartbeats 8000000
namespace Go.Proofs.YtlendfhehhacpaaGreat.laidP
open Go.ChangeShapes Go.WideShapes Go.ChangeAt Go.RowKit Go.Deep
theorem ownK : ownKnob Tryz.prog.godebug = none := by kernel_rfl
theorem laidOut : laidOutB Tryz.prog = true := by kernel_rfl
theorem contract (HA : AnyOk) (H : Type) (enc : TypeId × Value → H) (W : World) (base : Nat) (args : Array Value) (ds gs : List (DataW H)) (before : List MemPlace)
  (hval : ∀ (j : Nat) t v, Tryz.f10.params[j]? = some t → args[j]? = some v → Value.okWide Tryz.prog W .any base t v)
  (hW : DataW.Whole enc Tryz.prog Tryz.f10.params.toList Rows.laidSpec.vars false W args.toList ds gs before) :
  Calls Tryz.prog 10 args W fun e W' => ∃ v, e = .returned v ∧ Rows.laidSpec.post enc Tryz.prog Tryz.f10 false true false false W args v W' := by
 have hW' := hW
 obtain ⟨p, q, hA0, hV, rfl, hfz, hnd⟩ := hW
 have hA : DataW.TrodAll enc Tryz.prog W 0 (fun _ => true) true Tryz.f10.params.toList args.toList ds p := hA0
 rw [Tryz.params10] at hA hval
 obtain ⟨v0, v1, v2, d0, d1, d2, p0, p1, p2, rfl, rfl, rfl, h0, h1, h2⟩ := trodAll_three hA
 obtain ⟨rfl, rfl⟩ := trodVars_none hV
 clear hA0
 simp only [List.append_nil] at hW'
 have hlt : ∀ x ∈ p0 ++ p1 ++ p2, x.block < W.heap.size := fun x hx => hW'.lt x (by simpa using hx)
 have fin : ∀ W', Below W.heap.size W W' → Rows.laidSpec.post enc Tryz.prog Tryz.f10 false true false false W #[v0, v1, v2] (.bool true) W' := by
  intro W' hB
  refine ⟨[d0, d1, d2], [], _, [], p0 ++ (p1 ++ p2), [], hW', ?_, ?_, ?_, hB.frame _, fun h => by cases h⟩
  ·exact trodAll_cons_mk (shut_bool Tryz.underlying4 _) trodAll_mk0
  ·exact trodAll_mk3 (Below.trod laidOut qk (of_decide_eq_true qk) h0 hB (fun x hx => hlt x (by simp [hx]))) (Below.trod laidOut qk (of_decide_eq_true qk) h1 hB (fun x hx => hlt x (by simp [hx]))) (Below.trod laidOut qk (of_decide_eq_true qk) h2 hB (fun x hx => hlt x (by simp [hx])))
  ·rfl
 obtain ⟨s0, rfl⟩ := okWide_string Tryz.underlying9 (hval 0 9 v0 rfl rfl)
 obtain ⟨s1, rfl⟩ := okWide_string Tryz.underlying9 (hval 1 9 v1 rfl rfl)
 obtain ⟨n2, rfl⟩ := okWide_int Tryz.underlying3 (hval 2 3 v2 rfl rfl)
 obtain ⟨fuel2, hf2⟩ := h2
 obtain ⟨y2, ey2, hx2, hwf⟩ := DataW.trod_int Tryz.underlying3 hf2
 simp [Value.cells] at ey2
 subst ey2
 simp only [Lit.wf, Bool.and_eq_true, decide_eq_true_eq] at hwf
 refine Calls.mono (kLaid HA s0 s1 n2 W (by simpa [IntKind.min, IntKind.max, IntKind.bits, IntKind.signed] using hwf.1) (by simpa [IntKind.min, IntKind.max, IntKind.bits, IntKind.signed] using hwf.2)) ?_
 rintro e W' ⟨rfl, hB⟩
 exact ⟨_, rfl, fin W' hB⟩
theorem lifted (HA : AnyOk) (os : Os) (started : os.Started) (H : Type) (enc : TypeId × Value → H) :
  ReturnsInHanded {} Tryz.checked os 10 .any (Rows.laidSpec.pre6 enc Tryz.prog Tryz.f10 Rows.laidRow.domain false) (Rows.laidSpec.post enc Tryz.prog Tryz.f10 false true false false) := by
 refine returnsInHanded_of_change (C := Tryz.checked) ownK started qk Tryz.func10
  (ChangeSpec.witness6 (enc := enc) (C := Tryz.checked) false ⟨#[], #[.string ⟨#[]⟩, .string ⟨#[]⟩, .int .i64 0], []⟩ 8 qk qk qk qk) ?_
 intro W base args ds gs before hval hW _ _
 exact contract HA H enc W base args ds gs before hval hW
theorem given (HA : AnyOk) : Rows.LaidSaid :=
 OpenClaim.holds_of_wide 10 Tryz.f10 rfl rfl rfl rfl rfl rfl rfl ⟨rfl, rfl, rfl, rfl, rfl⟩ rfl rfl rfl rfl rfl qk Tryz.func10 qk
  (of_decide_eq_true qk) (by unfold Func.isWrapper; first | (rw [if_pos (by decide +kernel)]; kernel_rfl) | (rw [if_neg (by decide +kernel)]; exact ⟨rfl, rfl⟩))
  (fun os started H enc _ => lifted HA os started H enc)
