/- A part. -/
import Derived.Test.YtlendfhehhacpaaGreatRows
import Derived.Test.YtlendfhehhacpaaGreatP53
import Derived.ProofKit
import Derived.OpenShut
import Derived.JoinedOf
import Derived.Deep.Slices
import Derived.Deep.Strs
import Derived.Carry
set_option linter.unusedVariables false
set_option linter.unusedSimpArgs false
set_option maxRecDepth 100000
set_option maxHeartbeats 8000000
namespace Go.Proofs.YtlendfhehhacpaaGreat.againP
open Go.ChangeShapes Go.WideShapes Go.ChangeAt Go.RowKit Go.Deep
theorem ownK : ownKnob Tryz.prog.godebug = none := by kernel_rfl
theorem laidOut : laidOutB Tryz.prog = true := by kernel_rfl
theorem trodAll_five {H : Type} {enc : TypeId × Value → H} {P : Program} {w : World} {base : Nat} {spare : Nat → Bool} {held : Bool} {t0 t1 t2 t3 t4 : TypeId} {args : Array Value} {ds : List (DataW H)} {ps : List MemPlace} (h : DataW.TrodAll enc P w base spare held [t0, t1, t2, t3, t4] args.toList ds ps) :
  ∃ v0 v1 v2 v3 v4 d0 d1 d2 d3 d4 p0 p1 p2 p3 p4, args = #[v0, v1, v2, v3, v4] ∧ ds = [d0, d1, d2, d3, d4] ∧ ps = p0 ++ p1 ++ p2 ++ p3 ++ p4 ∧ DataW.Trod enc P w base spare held t0 v0 d0 p0 ∧ DataW.Trod enc P w base spare held t1 v1 d1 p1 ∧ DataW.Trod enc P w base spare held t2 v2 d2 p2 ∧ DataW.Trod enc P w base spare held t3 v3 d3 p3 ∧ DataW.Trod enc P w base spare held t4 v4 d4 p4 := by
 obtain ⟨v0, vs, d0, ds', p0, q, hargs, rfl, rfl, hd, hrest⟩ := trodAll_cons h
 obtain ⟨v1, vs', d1, ds'', p1, q', rfl, rfl, rfl, hd1, hrest⟩ := trodAll_cons hrest
 obtain ⟨v2, vs', d2, ds'', p2, q', rfl, rfl, rfl, hd2, hrest⟩ := trodAll_cons hrest
 obtain ⟨v3, vs', d3, ds'', p3, q', rfl, rfl, rfl, hd3, hrest⟩ := trodAll_cons hrest
 obtain ⟨v4, vs', d4, ds'', p4, q', rfl, rfl, rfl, hd4, hrest⟩ := trodAll_cons hrest
 obtain ⟨rfl, rfl, rfl⟩ := trodAll_nil hrest
 exact ⟨v0, v1, v2, v3, v4, d0, d1, d2, d3, d4, p0, p1, p2, p3, p4, by cases args; simp_all, rfl, by simp, hd, hd1, hd2, hd3, hd4⟩
theorem contract (HA : AnyOk) (H : Type) (enc : TypeId × Value → H) (W : World) (base : Nat) (args : Array Value) (ds gs : List (DataW H)) (before : List MemPlace)
  (hval : ∀ (j : Nat) t v, Tryz.f9.params[j]? = some t → args[j]? = some v → Value.okWide Tryz.prog W .any base t v)
  (hW : DataW.Whole enc Tryz.prog Tryz.f9.params.toList Rows.againSpec.vars false W args.toList ds gs before) :
  Calls Tryz.prog 9 args W fun e W' => ∃ v, e = .returned v ∧ Rows.againSpec.post enc Tryz.prog Tryz.f9 false true false false W args v W' := by
 have hW' := hW
 obtain ⟨p, q, hA0, hV, rfl, hfz, hnd⟩ := hW
 have hA : DataW.TrodAll enc Tryz.prog W 0 (fun _ => true) true Tryz.f9.params.toList args.toList ds p := hA0
 rw [Tryz.params9] at hA hval
 obtain ⟨v0, v1, v2, v3, v4, d0, d1, d2, d3, d4, p0, p1, p2, p3, p4, rfl, rfl, rfl, h0, h1, h2, h3, h4⟩ := trodAll_five hA
 obtain ⟨rfl, rfl⟩ := trodVars_none hV
 clear hA0
 simp only [List.append_nil] at hW'
 have hlt : ∀ x ∈ p0 ++ p1 ++ p2 ++ p3 ++ p4, x.block < W.heap.size := fun x hx => hW'.lt x (by simpa using hx)
 have fin : ∀ W', Below W.heap.size W W' → Rows.againSpec.post enc Tryz.prog Tryz.f9 false true false false W #[v0, v1, v2, v3, v4] (.bool true) W' := by
  intro W' hB
  refine ⟨[d0, d1, d2, d3, d4], [], _, [], p0 ++ (p1 ++ (p2 ++ (p3 ++ p4))), [], hW', ?_, ?_, ?_, hB.frame _, fun h => by cases h⟩
  ·exact trodAll_cons_mk (shut_bool Tryz.underlying4 _) trodAll_mk0
  ·exact trodAll_cons_mk (Below.trod laidOut qk (of_decide_eq_true qk) h0 hB (fun x hx => hlt x (by simp [hx]))) (trodAll_mk4 (Below.trod laidOut qk (of_decide_eq_true qk) h1 hB (fun x hx => hlt x (by simp [hx]))) (Below.trod laidOut qk (of_decide_eq_true qk) h2 hB (fun x hx => hlt x (by simp [hx]))) (Below.trod laidOut qk (of_decide_eq_true qk) h3 hB (fun x hx => hlt x (by simp [hx]))) (Below.trod laidOut qk (of_decide_eq_true qk) h4 hB (fun x hx => hlt x (by simp [hx]))))
  ·rfl
 obtain ⟨s0, rfl⟩ := okWide_string Tryz.underlying9 (hval 0 9 v0 rfl rfl)
 obtain ⟨s1, rfl⟩ := okWide_string Tryz.underlying9 (hval 1 9 v1 rfl rfl)
 obtain ⟨n2, rfl⟩ := okWide_int Tryz.underlying3 (hval 2 3 v2 rfl rfl)
 obtain ⟨fuel2, hf2⟩ := h2
 obtain ⟨y2, ey2, hx2, hwf2⟩ := DataW.trod_int Tryz.underlying3 hf2
 simp [Value.cells] at ey2
 subst ey2
 simp only [Lit.wf, Bool.and_eq_true, decide_eq_true_eq] at hwf2
 obtain ⟨n3, rfl⟩ := okWide_int Tryz.underlying3 (hval 3 3 v3 rfl rfl)
 obtain ⟨fuel3, hf3⟩ := h3
 obtain ⟨y3, ey3, hx3, hwf3⟩ := DataW.trod_int Tryz.underlying3 hf3
 simp [Value.cells] at ey3
 subst ey3
 simp only [Lit.wf, Bool.and_eq_true, decide_eq_true_eq] at hwf3
 obtain ⟨s4, rfl⟩ := okWide_string Tryz.underlying9 (hval 4 9 v4 rfl rfl)
 refine Calls.mono (kAgain HA s0 s1 n2 n3 s4 W (by simpa [IntKind.min, IntKind.max, IntKind.bits, IntKind.signed] using hwf2.1) (by simpa [IntKind.min, IntKind.max, IntKind.bits, IntKind.signed] using hwf2.2) (by simpa [IntKind.min, IntKind.max, IntKind.bits, IntKind.signed] using hwf3.1) (by simpa [IntKind.min, IntKind.max, IntKind.bits, IntKind.signed] using hwf3.2)) ?_
 rintro e W' ⟨rfl, hB⟩
 exact ⟨_, rfl, fin W' hB⟩
theorem lifted (HA : AnyOk) (os : Os) (started : os.Started) (H : Type) (enc : TypeId × Value → H) :
  ReturnsInHanded {} Tryz.checked os 9 .any (Rows.againSpec.pre6 enc Tryz.prog Tryz.f9 Rows.againRow.domain false) (Rows.againSpec.post enc Tryz.prog Tryz.f9 false true false false) := by
 refine returnsInHanded_of_change (C := Tryz.checked) ownK started qk Tryz.func9
  (ChangeSpec.witness6 (enc := enc) (C := Tryz.checked) false ⟨#[], #[.string ⟨#[]⟩, .string ⟨#[]⟩, .int .i64 0, .int .i64 0, .string ⟨#[]⟩], []⟩ 8 qk qk qk qk) ?_
 intro W base args ds gs before hval hW _ _
 exact contract HA H enc W base args ds gs before hval hW
theorem given (HA : AnyOk) : Rows.AgainSaid :=
 OpenClaim.holds_of_wide 9 Tryz.f9 rfl rfl rfl rfl rfl rfl rfl ⟨rfl, rfl, rfl, rfl, rfl⟩ rfl rfl rfl rfl rfl qk Tryz.func9 qk
  (of_decide_eq_true qk) (by unfold Func.isWrapper; first | (rw [if_pos (by decide +kernel)]; kernel_rfl) | (rw [if_neg (by decide +kernel)]; exact ⟨rfl, rfl⟩))
  (fun os started H enc _ => lifted HA os started H enc)
