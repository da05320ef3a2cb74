/- Joined of the texts LawM, GoesRow. -/
import Derived.Test.YtlendfhehhacpaaGreatP51
import Derived.Deep.OwnRows
import Derived.Test.YtlendfhehhacpaaGreatRows
import Derived.ProofKit
import Derived.OpenShut
import Derived.JoinedCond
import Derived.Deep.Slices
import Derived.Deep.Strs
import Derived.Carry
set_option linter.unusedVariables false
set_option linter.unusedSimpArgs false
set_option maxRecDepth 100000
set_option maxHeartbeats 8000000
namespace Go.Proofs.YtlendfhehhacpaaGreat
open Go.RowKit
def kRep (n : Nat) : ByteArray := ⟨(List.replicate n (0 : UInt8)).toArray⟩
theorem kRep_size (n : Nat) : (kRep n).size = n := by
  show (List.replicate n (0 : UInt8)).toArray.size = n
  simp
theorem conv_rep (n : Nat) (hn : n ≤ maxLen) (w : World) : (convert 48 9 (.slice (some ⟨w.heap.size, 0, none⟩) n n)).run Tryz.prog (w.alloc (.cells (madeCells #[.int .u8 0] n) 5)) = .ok (.string (kRep n)) (w.alloc (.cells (madeCells #[.int .u8 0] n) 5)) := by
  refine conv_own (base := 0) (n := n) (l := List.replicate n (0 : UInt8)) ⟨by simp [vals], Or.inr ⟨w.heap.size, n, madeCells #[.int .u8 0] n, rfl, Nat.zero_le _, heap_alloc_new w _, Nat.le_refl _, hn, ?_, ?_⟩⟩
  · rw [size_madeCells, Nat.mul_one]
  · have hl : (madeCells #[Value.int .u8 0] n).toList.length = n := by rw [Array.length_toList, size_madeCells]
    rw [Nat.mul_one, List.take_of_length_le (by omega)]
    apply List.ext_getElem
    · rw [hl]; simp [vals]
    · intro i h1 h2
      simp [madeCells, vals, Nat.mod_one]
theorem Script.below {w w' : World} {ao : Option Addr} {len B off : Nat} {K : Nat → Int × Int × ByteArray} (h : Script w ao len B off K) (hb : Below w.heap.size w w') : Script w' ao len B off K :=
  ⟨h.ao', fun k hk => memLater hb (h.c0 k hk), fun k hk => memLater hb (h.c1 k hk), fun k hk => memLater hb (h.c2 k hk), h.le, h.sz, h.nn⟩
def exK (LL : ByteArray) : Nat → Int × Int × ByteArray
  | 0 => (1, 0, ⟨#[102, 111, 111, 32, 98, 97, 114, 32, 40, 98, 97, 122, 41]⟩)
  | 1 => (2, 0, ⟨#[119]⟩)
  | 2 => (2, 0, ⟨#[100, 119]⟩)
  | 3 => (2, 0, ⟨#[100, 105, 40]⟩)
  | 4 => (2, 0, ⟨#[117]⟩)
  | 5 => (2, 0, ⟨#[48, 99, 119, 110, 111, 27]⟩)
  | 6 => (2, 0, ⟨#[119, 46]⟩)
  | 7 => (2, 0, ⟨#[121, 121, 112, 62, 62]⟩)
  | 8 => (1, 0, ⟨#[97, 10, 10, 98, 32, 99]⟩)
  | 9 => (2, 1, ⟨#[125, 107, 106, 71, 103, 103, 36, 48, 94, 104, 108, 50, 106]⟩)
  | 10 => (2, 1, ⟨#[118, 101, 98, 66, 59, 102, 98, 116, 99]⟩)
  | _ => (1, 0, LL)
theorem ex_script (w : World) (LL : ByteArray) (N : Nat) (hL : LL.size ≤ 1048576) (o : Obj) : Script ((w.alloc o).alloc (.cells #[.int .i64 1, .int .i64 0, .string ⟨#[102, 111, 111, 32, 98, 97, 114, 32, 40, 98, 97, 122, 41]⟩, .int .i64 2, .int .i64 0, .string ⟨#[119]⟩, .int .i64 2, .int .i64 0, .string ⟨#[100, 119]⟩, .int .i64 2, .int .i64 0, .string ⟨#[100, 105, 40]⟩, .int .i64 2, .int .i64 0, .string ⟨#[117]⟩,
    .int .i64 2, .int .i64 0, .string ⟨#[48, 99, 119, 110, 111, 27]⟩, .int .i64 2, .int .i64 0, .string ⟨#[119, 46]⟩, .int .i64 2, .int .i64 0, .string ⟨#[121, 121, 112, 62, 62]⟩, .int .i64 1, .int .i64 0, .string ⟨#[97, 10, 10, 98, 32, 99]⟩, .int .i64 2, .int .i64 1, .string ⟨#[125, 107, 106, 71, 103, 103, 36, 48, 94, 104, 108, 50, 106]⟩,
    .int .i64 2, .int .i64 1, .string ⟨#[118, 101, 98, 66, 59, 102, 98, 116, 99]⟩, .int .i64 1, .int .i64 0, .string LL] 47)) (some ⟨w.heap.size + 1, 0, none⟩) 12 (w.heap.size + 1) 0 (exK LL) := by
  have hd : ∀ k, k < 12 → k = 0 ∨ k = 1 ∨ k = 2 ∨ k = 3 ∨ k = 4 ∨ k = 5 ∨ k = 6 ∨ k = 7 ∨ k = 8 ∨ k = 9 ∨ k = 10 ∨ k = 11 := by intro k hk; omega
  refine ⟨fun _ => rfl, ?_, ?_, ?_, by decide, ?_, ?_⟩
  · intro k hk
    rcases hd k hk with rfl | rfl | rfl | rfl | rfl | rfl | rfl | rfl | rfl | rfl | rfl | rfl <;> simp [go_sem, exK]
  · intro k hk
    rcases hd k hk with rfl | rfl | rfl | rfl | rfl | rfl | rfl | rfl | rfl | rfl | rfl | rfl <;> simp [go_sem, exK]
  · intro k hk
    rcases hd k hk with rfl | rfl | rfl | rfl | rfl | rfl | rfl | rfl | rfl | rfl | rfl | rfl <;> simp [go_sem, exK]
  · intro k hk
    rcases hd k hk with rfl | rfl | rfl | rfl | rfl | rfl | rfl | rfl | rfl | rfl | rfl | rfl <;> first | exact hL | (simp only [exK]; decide)
  · intro k hk
    rcases hd k hk with rfl | rfl | rfl | rfl | rfl | rfl | rfl | rfl | rfl | rfl | rfl | rfl <;> simp [exK]
theorem example_any (HA : AnyOk) (w : World) :
    Calls Tryz.prog 12 #[.int .i64 1] w fun e w' => e = .returned (.bool true) ∧ Below w.heap.size w w' := by
  obtain ⟨N, HN⟩ : ∃ N : Nat, Hid (N = 1001) := ⟨1001, rfl⟩
  have hmk : ∀ ww, (Instr.makeSlice 48 (.int .i64 1001) (.int .i64 1001)).run Tryz.prog ww = .ok (.slice (some ⟨ww.heap.size, 0, none⟩) N N) (ww.alloc (.cells (madeCells #[.int .u8 0] N) 5)) := by
    intro ww
    rw [HN.out]
    exact run_make_row' (P := Tryz.prog) 48 5 (.int .u8 0) 1 Tryz.underlying48 infoU8 rfl .i64 .i64 1001 (by decide) (by decide) ww
  have hcv := conv_rep N (by rw [HN.out]; decide) w
  have HZ : Hid ((kRep N).size = N) := kRep_size N
  have HA' : Hid AnyOk := HA
  clear HA
  generalize kRep N = LL at *
  go_enter Tryz.func12, Tryz.ntmps12
  go_wp2_with fail
  refine Calls.mono (plays_any HA'.out _ 12 12 (w.heap.size + 1) 0 (exK LL) _ ?_) ?_
  · exact ex_script w LL N (by rw [HZ.out, HN.out]; decide) _
  · rintro e w1 ⟨rfl, h1⟩
    go_wp2
    go_ret
    refine ⟨rfl, ?_⟩
    exact (((Below.refl _ _).alloc (Nat.le_refl _) _).alloc (by simp) _).trans (Below.mono h1 (by simp; omega))
theorem goes_law (HA : AnyOk) (ao : Option Addr) (len cap B off : Nat) (K : Nat → Int × Int × ByteArray) (w : World) (h : Script w ao len B off K) :
    Calls Tryz.prog 3 #[.slice ao len cap] w fun e w' => e = .returned (.bool true) ∧ Below w.heap.size w w' := by
  have HE : Hid (∀ ww, Calls Tryz.prog 12 #[.int .i64 1] ww fun e w' => e = .returned (.bool true) ∧ Below ww.heap.size ww w') := fun ww => example_any HA ww
  have HP : Hid (∀ ww, Script ww ao len B off K → Calls Tryz.prog 13 #[.slice ao len cap, .int .i64 1] ww fun e w' => e = .returned (.bool true) ∧ Below ww.heap.size ww w') := fun ww hh => plays_any HA ao len cap B off K ww hh
  have H := h
  clear HA h
  go_enter Tryz.func3, Tryz.ntmps3
  go_wp2_with fail
  refine Calls.mono (HE.out _) ?_
  rintro e w1 ⟨rfl, h1⟩
  have H1 : Script w1 ao len B off K := H.below h1
  go_wp2_with fail
  refine Calls.mono (HP.out _ H1) ?_
  rintro e w2 ⟨rfl, h2⟩
  go_wp2
  go_ret
  exact ⟨rfl, h1.trans (Below.mono h2 h1.size)⟩
end Go.Proofs.YtlendfhehhacpaaGreat
namespace Go.Proofs.YtlendfhehhacpaaGreat.goesP
open Go.ChangeShapes Go.WideShapes Go.ChangeAt Go.RowKit Go.Deep
theorem ownK : ownKnob Tryz.prog.godebug = none := by kernel_rfl
theorem laidOut : laidOutB Tryz.prog = true := by kernel_rfl
theorem cellsOp : Tryz.prog.cellsOf 47 = 3 := by kernel_rfl
theorem cellsInt : Tryz.prog.cellsOf 3 = 1 := by kernel_rfl
theorem cellsStr : Tryz.prog.cellsOf 9 = 1 := by kernel_rfl
theorem three {cs : List Value} (h : cs.length = 3) : ∃ v0 v1 v2, cs = [v0, v1, v2] := by
  match cs, h with
  | [v0, v1, v2], _ => exact ⟨v0, v1, v2, rfl⟩
theorem open_op {H : Type} {enc : TypeId × Value → H} {w : World} {base : Nat} {sp : Nat → Bool} {held : Bool} {n : Nat} {cs : List Value} {x : DataW H × List MemPlace} (h : DataW.trod enc Tryz.prog w base sp held n 47 cs = some x) :
    ∃ (a b : Int) (s : ByteArray), cs = [.int .i64 a, .int .i64 b, .string s] ∧ x.1 = .agg [.lit (.int .i64 a), .lit (.int .i64 b), .lit (.string s.data.toList)] ∧ (Lit.int .i64 b).wf = true := by
  obtain ⟨y0, y1, y2, k, rfl, hl, h0, h1, h2⟩ := trod_struct3 Tryz.underlying47 h
  rw [cellsOp] at hl
  obtain ⟨v0, v1, v2, rfl⟩ := three hl
  obtain ⟨a, e0, rfl, _⟩ := DataW.trod_int Tryz.underlying3 h0
  obtain ⟨b, e1, rfl, hb⟩ := DataW.trod_int Tryz.underlying3 h1
  obtain ⟨s, e2, rfl, _⟩ := DataW.trod_string Tryz.underlying9 h2
  simp [cellsInt, cellsStr] at e0 e1 e2
  exact ⟨a, b, s, by rw [e0, e1, e2], rfl, hb⟩
theorem one_le {H : Type} (d : DataW H) : 1 ≤ Rows.uptoBulk d := by
  cases d with
  | lit l => cases l <;> simp [Rows.uptoBulk]
  | _ => simp [Rows.uptoBulk]
theorem part_le {H : Type} {d : DataW H} {l : List (DataW H)} (h : d ∈ l) : Rows.uptoBulk d ≤ Rows.uptoBulkAll l := by
  induction l with
  | nil => cases h
  | cons x r ih =>
    simp only [Rows.uptoBulkAll]
    cases List.mem_cons.1 h with
    | inl e => subst e; omega
    | inr e => have := ih e; omega
theorem length_le {H : Type} (l : List (DataW H)) : l.length ≤ Rows.uptoBulkAll l := by
  induction l with
  | nil => simp [Rows.uptoBulkAll]
  | cons x r ih => have := one_le x; simp only [Rows.uptoBulkAll, List.length_cons]; omega
theorem contract (HA : AnyOk) (H : Type) (enc : TypeId × Value → H) (W : World) (base : Nat) (args : Array Value) (ds gs : List (DataW H)) (before : List MemPlace)
    (hval : ∀ (j : Nat) t v, Tryz.f3.params[j]? = some t → args[j]? = some v → Value.okWide Tryz.prog W .any base t v)
    (hW : DataW.Whole enc Tryz.prog Tryz.f3.params.toList Rows.goesSpec.vars false W args.toList ds gs before) (hk : Rows.uptoSmall H (ds ++ gs) = true) :
    Calls Tryz.prog 3 args W fun e W' => ∃ v, e = .returned v ∧ Rows.goesSpec.post enc Tryz.prog Tryz.f3 false true false false W args v W' := by
  have hW' := hW
  obtain ⟨p, q, hA0, hV, rfl, hfz, hnd⟩ := hW
  have hA : DataW.TrodAll enc Tryz.prog W 0 (fun _ => true) true Tryz.f3.params.toList args.toList ds p := hA0
  rw [Tryz.params3] at hA hval
  obtain ⟨v0, d0, hv0, rfl, h0⟩ := trodAll_one hA
  obtain rfl : args = #[v0] := by cases args; simp_all
  obtain ⟨rfl, rfl⟩ := trodVars_none hV
  clear hA0
  simp only [List.append_nil] at hW' hk
  have hb : Rows.uptoBulkAll [d0] ≤ 1048576 := of_decide_eq_true hk
  have hb0 : Rows.uptoBulk d0 ≤ 1048576 := Nat.le_trans (part_le (by simp)) hb
  have hlt : ∀ x ∈ p, x.block < W.heap.size := fun x hx => hW'.lt x (by simpa using hx)
  have fin : ∀ W', Below W.heap.size W W' → Rows.goesSpec.post enc Tryz.prog Tryz.f3 false true false false W #[v0] (.bool true) W' := by
    intro W' hB
    refine ⟨[d0], [], _, [], p, [], hW', ?_, ?_, ?_, hB.frame _, fun h => by cases h⟩
    · exact trodAll_cons_mk (shut_bool Tryz.underlying4 _) trodAll_mk0
    · exact trodAll_mk1 (Below.trod laidOut (by kernel_rfl) (of_decide_eq_true (by kernel_rfl)) h0 hB hlt)
    · rfl
  obtain ⟨a0, len, cap, rfl⟩ := okWide_slice Tryz.underlying22 (hval 0 22 v0 rfl rfl)
  obtain ⟨fuel, hf⟩ := h0
  rcases open_slice Tryz.underlying22 hf with ⟨hcs, hx⟩ | ⟨a, len', cap', m, n, D, Pl, hcs, _, hl, hm, hmm, hx, hel⟩
  · simp [Value.cells] at hcs
    obtain ⟨rfl, rfl, rfl⟩ := hcs
    refine (goes_law HA none 0 0 0 0 (fun _ => (0, 0, ⟨#[]⟩)) W ⟨fun h => absurd h (by omega), fun k h => absurd h (by omega), fun k h => absurd h (by omega), fun k h => absurd h (by omega), by omega, fun k h => absurd h (by omega), fun k h => absurd h (by omega)⟩).mono ?_
    rintro e W' ⟨rfl, hB⟩
    exact ⟨_, rfl, fin W' hB⟩
  · simp [Value.cells] at hcs
    obtain ⟨rfl, rfl, rfl⟩ := hcs
    simp only [if_true] at hmm
    subst hmm
    simp only [Prod.mk.injEq] at hx
    obtain ⟨rfl, rfl⟩ := hx
    rw [cellsOp] at hel
    have each : ∀ i, i < len → ∃ q : Int × Int × ByteArray, W.cell? (a.add (i * 3)) = some (.int .i64 q.1) ∧ W.cell? (a.add (i * 3 + 1)) = some (.int .i64 q.2.1) ∧ W.cell? (a.add (i * 3 + 2)) = some (.string q.2.2) ∧
        D i = .agg [.lit (.int .i64 q.1), .lit (.int .i64 q.2.1), .lit (.string q.2.2.data.toList)] ∧ (Lit.int .i64 q.2.1).wf = true := by
      intro i hi
      obtain ⟨cs', h1, h2⟩ := hel i (by omega)
      obtain ⟨_, hlen, hcell⟩ := World.cells?_some h1
      obtain ⟨x0, x1, s, rfl, hD, hwf⟩ := open_op h2
      have e0 := hcell 0 (by omega)
      have e1 := hcell 1 (by omega)
      have e2 := hcell 2 (by omega)
      rw [add_add] at e0 e1 e2
      exact ⟨(x0, x1, s), by simpa using e0, by simpa using e1, by simpa using e2, hD, hwf⟩
    obtain ⟨K, hK⟩ := choose_lt each
    have hsl : ((List.range len).map D).length + 1 ≤ 1048576 := by
      have h1 := length_le ((List.range len).map D)
      simp only [Rows.uptoBulk] at hb0
      omega
    have hlen : len ≤ 1048576 := by simp at hsl; omega
    have hsz : ∀ i, i < len → (K i).2.2.size ≤ 1048576 := by
      intro i hi
      have h1 : Rows.uptoBulk (D i) ≤ Rows.uptoBulkAll ((List.range len).map D) := part_le (List.mem_map.2 ⟨i, List.mem_range.2 hi, rfl⟩)
      rw [(hK i hi).2.2.2.1] at h1
      simp only [Rows.uptoBulk, Rows.uptoBulkAll] at h1 hb0
      have e : (K i).2.2.data.toList.length = (K i).2.2.size := by rw [Array.length_toList]; rfl
      omega
    by_cases hl0 : len = 0
    · subst hl0
      refine (goes_law HA (some a) 0 _ 0 0 K W ⟨fun h => absurd h (by omega), fun k h => absurd h (by omega), fun k h => absurd h (by omega), fun k h => absurd h (by omega), by omega, fun k h => absurd h (by omega), fun k h => absurd h (by omega)⟩).mono ?_
      rintro e W' ⟨rfl, hB⟩
      exact ⟨_, rfl, fin W' hB⟩
    · obtain ⟨bm, om, spot⟩ := a
      have hspot : spot = none := by simpa [Addr.add] using World.cell?_spot (hK 0 (by omega)).1
      subst hspot
      have pl : ∀ i, (⟨bm, om, none⟩ : Addr).add i = ⟨bm, om + i, none⟩ := fun i => by unfold Addr.add; split <;> simp_all
      refine (goes_law HA (some ⟨bm, om, none⟩) len _ bm om K W ⟨fun _ => rfl, fun k h => ?_, fun k h => ?_, fun k h => ?_, hlen, hsz, fun k h => ?_⟩).mono ?_
      · have := (hK k h).1; rw [pl] at this; exact this
      · have := (hK k h).2.1; rw [pl] at this; rw [Nat.add_assoc]; exact this
      · have := (hK k h).2.2.1; rw [pl] at this; rw [Nat.add_assoc]; exact this
      · have := (hK k h).2.2.2.2
        exact bounds_i64 this
      · rintro e W' ⟨rfl, hB⟩
        exact ⟨_, rfl, fin W' hB⟩
theorem lifted (HA : AnyOk) (os : Os) (started : os.Started) (H : Type) (enc : TypeId × Value → H) (F : Stop.Interp) :
    ReturnsInHanded {} Tryz.checked os 3 .any ((Rows.OpenSpec.upto Rows.goesSpec).pre6 enc Tryz.prog Tryz.f3 Rows.goesUptoRow.domain false) (((Rows.OpenSpec.upto Rows.goesSpec).at F).post enc Tryz.prog Tryz.f3 false true false false) := by
  refine returnsInHanded_of_cond (C := Tryz.checked) (s := Rows.OpenSpec.upto Rows.goesSpec) (k := Rows.uptoSmall) rfl ownK started (by kernel_rfl) Tryz.func3
    (OpenSpec.witness (enc := enc) (C := Tryz.checked) (s := Rows.OpenSpec.upto Rows.goesSpec) (k := Rows.uptoSmall) rfl false ⟨#[], #[.slice none 0 0], []⟩ 8 (by kernel_rfl) (by kernel_rfl) (by kernel_rfl)
      (x := ([.nil], [], [])) (by kernel_rfl) rfl (by kernel_rfl)) ?_
  intro W base args ds gs before hval hW _ hk _
  exact contract HA H enc W base args ds gs before hval hW hk
theorem given (HA : AnyOk) : Rows.GoesUptoSaid :=
  OpenClaim.holds_of_cond 3 Tryz.f3 rfl rfl rfl rfl rfl rfl rfl ⟨rfl, rfl, rfl, rfl, rfl⟩ rfl rfl rfl rfl rfl (by kernel_rfl) Tryz.func3 (by kernel_rfl)
    (of_decide_eq_true (by kernel_rfl)) (by unfold Func.isWrapper; first | (rw [if_pos (by decide +kernel)]; kernel_rfl) | (rw [if_neg (by decide +kernel)]; exact ⟨rfl, rfl⟩))
    (fun os started H enc _ F => lifted HA os started H enc F)
end Go.Proofs.YtlendfhehhacpaaGreat.goesP
