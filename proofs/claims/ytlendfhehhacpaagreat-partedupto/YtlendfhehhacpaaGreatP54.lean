/- A part. -/
import Derived.Test.YtlendfhehhacpaaGreatRows
import Derived.Test.YtlendfhehhacpaaGreatP53
import Derived.ProofKit
import Derived.OpenShut
import Derived.JoinedCond
import Derived.Deep.Slices
import Derived.Deep.Strs
import Derived.Carry
set_option linter.unusedVariables false
set_option linter.unusedSimpArgs false
set_option maxRecDepth 100000
set_option maxHeartbeats 8000000
namespace Go.Proofs.YtlendfhehhacpaaGreat.partedP
open Go.ChangeShapes Go.WideShapes Go.ChangeAt Go.RowKit Go.Deep
theorem ownK : ownKnob Tryz.prog.godebug = none := by kernel_rfl
theorem laidOut : laidOutB Tryz.prog = true := by kernel_rfl
theorem one_le {H : Type} (d : DataW H) : 1 ≤ Rows.uptoBulk d := by
 cases d with
 | lit l => cases l <;> simp [Rows.uptoBulk]
 | _ => simp [Rows.uptoBulk]
theorem part_le {H : Type} {d : DataW H} {l : List (DataW H)} (h : d ∈ l) : Rows.uptoBulk d ≤ Rows.uptoBulkAll l := by
 induction l with
 | nil => cases h
 | cons x r ih =>
  simp only [Rows.uptoBulkAll]
  cases List.mem_cons.1 h with
  | inl e => subst e; omega
  | inr e => have := ih e; omega
theorem length_le {H : Type} (l : List (DataW H)) : l.length ≤ Rows.uptoBulkAll l := by
 induction l with
 | nil => simp [Rows.uptoBulkAll]
 | cons x r ih => have := one_le x; simp only [Rows.uptoBulkAll, List.length_cons]; omega
theorem contract (HA : AnyOk) (H : Type) (enc : TypeId × Value → H) (W : World) (base : Nat) (args : Array Value) (ds gs : List (DataW H)) (before : List MemPlace)
  (hval : ∀ (j : Nat) t v, Tryz.f6.params[j]? = some t → args[j]? = some v → Value.okWide Tryz.prog W .any base t v)
  (hW : DataW.Whole enc Tryz.prog Tryz.f6.params.toList Rows.partedSpec.vars false W args.toList ds gs before) (hk : Rows.uptoSmall H (ds ++ gs) = true) :
  Calls Tryz.prog 6 args W fun e W' => ∃ v, e = .returned v ∧ Rows.partedSpec.post enc Tryz.prog Tryz.f6 false true false false W args v W' := by
 have hW' := hW
 obtain ⟨p, q, hA0, hV, rfl, hfz, hnd⟩ := hW
 have hA : DataW.TrodAll enc Tryz.prog W 0 (fun _ => true) true Tryz.f6.params.toList args.toList ds p := hA0
 rw [Tryz.params6] at hA hval
 obtain ⟨v0, v1, v2, d0, d1, d2, p0, p1, p2, rfl, rfl, rfl, h0, h1, h2⟩ := trodAll_three hA
 obtain ⟨rfl, rfl⟩ := trodVars_none hV
 clear hA0
 simp only [List.append_nil] at hW' hk
 have hb : Rows.uptoBulkAll [d0, d1, d2] ≤ 1048576 := of_decide_eq_true hk
 have hb0 : Rows.uptoBulk d0 ≤ 1048576 := Nat.le_trans (part_le qi) hb
 have hb1 : Rows.uptoBulk d1 ≤ 1048576 := Nat.le_trans (part_le qi) hb
 have hlt : ∀ x ∈ p0 ++ p1 ++ p2, x.block < W.heap.size := fun x hx => hW'.lt x (by simpa using hx)
 have fin : ∀ W', Below W.heap.size W W' → Rows.partedSpec.post enc Tryz.prog Tryz.f6 false true false false W #[v0, v1, v2] (.bool true) W' := by
  intro W' hB
  refine ⟨[d0, d1, d2], [], _, [], p0 ++ (p1 ++ p2), [], hW', ?_, ?_, ?_, hB.frame _, fun h => by cases h⟩
  ·exact trodAll_cons_mk (shut_bool Tryz.underlying4 _) trodAll_mk0
  ·exact trodAll_mk3 (Below.trod laidOut qk (of_decide_eq_true qk) h0 hB (fun x hx => hlt x (by simp [hx]))) (Below.trod laidOut qk (of_decide_eq_true qk) h1 hB (fun x hx => hlt x (by simp [hx]))) (Below.trod laidOut qk (of_decide_eq_true qk) h2 hB (fun x hx => hlt x (by simp [hx])))
  ·rfl
 obtain ⟨s0, rfl⟩ := okWide_string Tryz.underlying9 (hval 0 9 v0 rfl rfl)
 obtain ⟨fuel0, hf0⟩ := h0
 obtain ⟨y0, ey0, hx0, _⟩ := DataW.trod_string Tryz.underlying9 hf0
 simp [Value.cells] at ey0
 subst ey0
 simp only [Prod.mk.injEq] at hx0
 obtain ⟨rfl, rfl⟩ := hx0
 obtain ⟨s1, rfl⟩ := okWide_string Tryz.underlying9 (hval 1 9 v1 rfl rfl)
 obtain ⟨fuel1, hf1⟩ := h1
 obtain ⟨y1, ey1, hx1, _⟩ := DataW.trod_string Tryz.underlying9 hf1
 simp [Value.cells] at ey1
 subst ey1
 simp only [Prod.mk.injEq] at hx1
 obtain ⟨rfl, rfl⟩ := hx1
 obtain ⟨n2, rfl⟩ := okWide_int Tryz.underlying3 (hval 2 3 v2 rfl rfl)
 obtain ⟨fuel2, hf2⟩ := h2
 obtain ⟨y2, ey2, hx2, hwf⟩ := DataW.trod_int Tryz.underlying3 hf2
 simp [Value.cells] at ey2
 subst ey2
 simp only [Lit.wf, Bool.and_eq_true, decide_eq_true_eq] at hwf
 have z0 : s0.size ≤ 1048576 := by
  simp only [Rows.uptoBulk] at hb0
  have e : s0.data.toList.length = s0.size := by rw [Array.length_toList]; rfl
  omega
 have z1 : s1.size ≤ 1048576 := by
  simp only [Rows.uptoBulk] at hb1
  have e : s1.data.toList.length = s1.size := by rw [Array.length_toList]; rfl
  omega
 refine Calls.mono (kParted HA s0 s1 n2 W z0 z1) ?_
 rintro e W' ⟨rfl, hB⟩
 exact ⟨_, rfl, fin W' hB⟩
theorem lifted (HA : AnyOk) (os : Os) (started : os.Started) (H : Type) (enc : TypeId × Value → H) (F : Stop.Interp) :
  ReturnsInHanded {} Tryz.checked os 6 .any ((Rows.OpenSpec.upto Rows.partedSpec).pre6 enc Tryz.prog Tryz.f6 Rows.partedUptoRow.domain false) (((Rows.OpenSpec.upto Rows.partedSpec).at F).post enc Tryz.prog Tryz.f6 false true false false) := by
 refine returnsInHanded_of_cond (C := Tryz.checked) (s := Rows.OpenSpec.upto Rows.partedSpec) (k := Rows.uptoSmall) rfl ownK started qk Tryz.func6
  (OpenSpec.witness (enc := enc) (C := Tryz.checked) (s := Rows.OpenSpec.upto Rows.partedSpec) (k := Rows.uptoSmall) rfl false ⟨#[], #[.string ⟨#[]⟩, .string ⟨#[]⟩, .int .i64 0], []⟩ 8 qk qk qk
   (x := ([.lit (.string []), .lit (.string []), .lit (.int .i64 0)], [], [])) qk rfl qk) ?_
 intro W base args ds gs before hval hW _ hk _
 exact contract HA H enc W base args ds gs before hval hW hk
theorem given (HA : AnyOk) : Rows.PartedUptoSaid :=
 OpenClaim.holds_of_cond 6 Tryz.f6 rfl rfl rfl rfl rfl rfl rfl ⟨rfl, rfl, rfl, rfl, rfl⟩ rfl rfl rfl rfl rfl qk Tryz.func6 qk
  (of_decide_eq_true qk) (by unfold Func.isWrapper; first | (rw [if_pos (by decide +kernel)]; kernel_rfl) | (rw [if_neg (by decide +kernel)]; exact ⟨rfl, rfl⟩))
  (fun os started H enc _ F => lifted HA os started H enc F)
end Go.Proofs.YtlendfhehhacpaaGreat.partedP
