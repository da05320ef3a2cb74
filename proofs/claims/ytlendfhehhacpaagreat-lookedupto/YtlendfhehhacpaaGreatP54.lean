/- Joined of the texts LookI, LookRow. -/
import Derived.Test.YtlendfhehhacpaaGreatP53
import Derived.Test.YtlendfhehhacpaaGreatRows
import Derived.ProofKit
import Derived.OpenShut
import Derived.JoinedCond
import Derived.Deep.Slices
import Derived.Deep.Strs
import Derived.Carry
set_option linter.unusedVariables false
set_option linter.unusedSimpArgs false
set_option maxRecDepth 100000
set_option maxHeartbeats 8000000
namespace Go.Proofs.YtlendfhehhacpaaGreat
open Go.RowKit
theorem LkS.state {w0 ww : World} {q b r d m N : Nat} {t : ByteArray} (h : LkS w0 b r d m t N ww) (hq : ww.cell? ⟨q, 0, none⟩ = some (.pointer (some ⟨b, 0, none⟩))) :
    Calls Tryz.prog 18 #[.pointer (some ⟨q, 0, none⟩)] ww fun e w' => ∃ a c o : Int, ∃ l, e = .returned (.agg #[.string t, .int .i64 a, .int .i64 c, .int .i64 o, .bool l]) ∧ Below ww.heap.size ww w' := by
  obtain ⟨p, f, tv, n, xs, dg, HB, _, _, HR, _, hg, _⟩ := h
  refine Calls.mono (nState q b r d tv dg p ww hq HB HR) ?_
  rintro e w' ⟨rfl, h⟩
  rw [hg.tx]
  exact ⟨_, _, _, _, rfl, h⟩
theorem New7.lks {w W : World} {q b r d m : Nat} {t : ByteArray} (N : New7 w W q b r d m t) (ht : t.size ≤ 1000) : LkS W b r d m t 0 W :=
  ⟨_, _, _, 0, [], _, N.bd, World.ownsRow_nil _ _ _ _, Nat.le_refl _, N.rd, N.rg, ⟨rfl, rfl, ht, Nat.zero_le _, Nib.zero_settled _, Nat.zero_le _, Or.inl rfl, Nat.zero_le _, Nat.zero_le _, Or.inl rfl, Or.inl rfl, Or.inl rfl, rfl⟩, by simp [Value.ownBlock], Upd.refl _ _⟩
theorem LkS.below {w0 ww ww' : World} {b r d m N : Nat} {t : ByteArray} (h : LkS w0 b r d m t N ww) (hb : Below ww.heap.size ww ww') : LkS w0 b r d m t N ww' := by
  obtain ⟨p, f, tv, n, xs, dg, h1, h2, h3, h4, h5, h6, h7, h8⟩ := h
  exact ⟨p, f, tv, n, xs, dg, h1.below hb, ownsRow_upd h2 (Upd.of_below (S := []) hb) (by simp), h3, h4.below hb, h5.below hb, h6, h7, Upd.below h8 hb⟩
theorem LkS.mono {w0 ww : World} {b r d m N M : Nat} {t : ByteArray} (h : LkS w0 b r d m t N ww) (hn : N ≤ M) : LkS w0 b r d m t M ww := by
  obtain ⟨p, f, tv, n, xs, dg, h1, h2, h3, h4⟩ := h
  exact ⟨p, f, tv, n, xs, dg, h1, h2, by omega, h4⟩
theorem LkS.up {w0 ww : World} {b r d m N : Nat} {t : ByteArray} (h : LkS w0 b r d m t N ww) : Upd [b, r, d, m] w0 ww := by
  obtain ⟨_, _, _, _, _, _, _, _, _, _, _, _, _, hup⟩ := h
  exact hup
theorem one_byte (s : ByteArray) (k : Nat) (h : k < s.size) : s.extract k (k + 1) = ⟨#[s[k]'h]⟩ := by
  apply ByteArray.ext
  rw [ByteArray.data_extract]
  apply Array.ext
  · simp; have : s.data.size = s.size := rfl; omega
  · intro i h1 h2
    have hi : i = 0 := by simp at h2; omega
    subst hi
    simp [ByteArray.getElem_eq_getElem_data]
theorem kLooked (HA : AnyOk) (text keys : ByteArray) (w : World) (h1 : text.size ≤ 1048576) (h2 : keys.size ≤ 1048576) :
    Calls Tryz.prog 8 #[.string text, .string keys] w fun e w' => e = .returned (.bool true) ∧ Below w.heap.size w w' := by
  have HK : Hid (∀ ww, Calls Tryz.prog 14 #[] ww fun e w' => e = .returned (.bool true) ∧ Below ww.heap.size ww w') := fun ww => kKnown ww
  have HO : Hid (∀ ww, Calls Tryz.prog 15 #[.string text] ww fun e w' => ∃ q b r d m : Nat, e = .returned (.pointer (some ⟨q, 0, none⟩)) ∧ New7 ww w' q b r d m (cut3 text) ∧ Below ww.heap.size ww w') := fun ww => kOpened text ww h1
  have HU1 : Hid (∀ ww, Calls Tryz.prog 16 #[.string text, .int .i64 300] ww fun e w' => e = .returned (.string (cut3 text)) ∧ Below ww.heap.size ww w') := fun ww => kUpTo text ww h1
  have HU2 : Hid (∀ ww, Calls Tryz.prog 16 #[.string keys, .int .i64 300] ww fun e w' => e = .returned (.string (cut3 keys)) ∧ Below ww.heap.size ww w') := fun ww => kUpTo keys ww h2
  have HI : Hid (∀ c ww, Calls Tryz.prog 21 #[.string kSet, .int .u8 c] ww fun e w' => e = .returned (.bool (hasB kSet c)) ∧ Below ww.heap.size ww w') := fun c ww => kIn kSet c ww (by decide)
  have ht := cut3_size text
  have hk := cut3_size keys
  generalize cut3 text = t at *
  generalize cut3 keys = ks at *
  go_enter Tryz.func8, Tryz.ntmps8
  go_wp2_with fail
  refine Calls.mono (HK.out _) ?_
  rintro e w1 ⟨rfl, g1⟩
  have z1 := g1.size
  go_wp2_with fail
  refine Calls.mono (HO.out _) ?_
  rintro e w2 ⟨q, b, r, d, m, rfl, N2, g2⟩
  have z2 := g2.size
  go_wp2_with fail
  refine Calls.mono (HU2.out _) ?_
  rintro e w3 ⟨rfl, g3⟩
  have z3 := g3.size
  have N3 := N2.below g3
  have B3 : Below w.heap.size w w3 := by
    repeat (with_reducible first | exact Below.refl _ _ | refine b_s ?_ _ | refine b_a ?_ _ | refine Below.drew ?_ | refine below_drewN ?_ _ | refine b_t ?_ g3 | refine b_t ?_ g2 | refine b_t ?_ g1)
  have S3 := N3.lks (by omega)
  have lb := N3.bd.lt
  have lr := N3.rd.bg.lt
  have ld := N3.rd.dk.lt
  have lm := N3.rg.lt
  clear HK HO HU2 g1 g2 g3 N2
  go_wp2
  go_loopw [7] (fun a wr => ∃ k : Nat, k ≤ ks.size ∧ a = .int .i64 k ∧ LkS w3 b r d m t k wr) (fun a _ => ks.size - (intOf a).toNat)
  case atStart => exact ⟨0, Nat.zero_le _, rfl, S3⟩
  case round =>
    clear S3
    obtain ⟨k, hkk, rfl, S⟩ := hrel
    have cq := S.up.was N3.cq (by simp [N3.qb, N3.qr, N3.qd, N3.qm])
    have zr := S.up.size
    by_cases hlt : k < ks.size
    · have i1 : ((k : Nat) : Int) < ((ks.size : Nat) : Int) := by omega
      have i2 : ((k : Nat) : Int) + 1 ≤ ((ks.size : Nat) : Int) := by omega
      have e1 := one_byte ks k hlt
      have HIc := fun ww => HI.out (((ks[k]'hlt).toNat : Nat) : Int) ww
      cases hB : hasB kSet (((ks[k]'hlt).toNat : Nat) : Int) with
      | true =>
        have HIt : Hid (∀ ww, Calls Tryz.prog 21 #[.string kSet, .int .u8 (((ks[k]'hlt).toNat : Nat) : Int)] ww fun e w' => e = .returned (.bool true) ∧ Below ww.heap.size ww w') := by
          intro ww
          have := HIc ww
          rw [hB] at this
          exact this
        clear HIc
        go_wp2_with fail
        refine Calls.mono (HIt.out _) ?_
        rintro e w4 ⟨rfl, g4⟩
        have S4 := S.below g4
        have c4 := memLater g4 cq
        go_wp2_with fail
        refine Calls.mono (lType HA w3 w4 q b r d m k t ⟨#[ks[k]'hlt]⟩ (ks[k]'hlt) N3.ly c4 lb lr ld lm (by omega) rfl hB S4) ?_
        rintro e w5 ⟨n, rfl, S5⟩
        clear S S4 cq c4
        go_wp2
        go_round
        case rel => exact ⟨k + 1, by omega, by go_num, S5⟩
        case measure => simp [intOf] <;> omega
      | false =>
        have HIt : Hid (∀ ww, Calls Tryz.prog 21 #[.string kSet, .int .u8 (((ks[k]'hlt).toNat : Nat) : Int)] ww fun e w' => e = .returned (.bool false) ∧ Below ww.heap.size ww w') := by
          intro ww
          have := HIc ww
          rw [hB] at this
          exact this
        clear HIc
        go_wp2_with fail
        refine Calls.mono (HIt.out _) ?_
        rintro e w4 ⟨rfl, g4⟩
        have S4 := (S.below g4).mono (Nat.le_succ k)
        clear S cq
        go_wp2
        go_round
        case rel => exact ⟨k + 1, by omega, by go_num, S4⟩
        case measure => simp [intOf] <;> omega
    · have hns : ¬ ((k : Nat) : Int) < ((ks.size : Nat) : Int) := by omega
      have Br : Below w.heap.size w wr := B3.trans (below_of_upd S.up (by omega) (by
        intro x hx
        simp at hx
        have := N3.lb; have := N3.lr; have := N3.ld; have := N3.lm
        rcases hx with hx | hx | hx | hx <;> omega))
      go_wp2_with fail
      refine Calls.mono (S.state cq) ?_
      rintro e w5 ⟨a5, c5, o5, l5, rfl, g5⟩
      have z5 := g5.size
      clear S cq
      have hfd : ∀ ww : World, (Instr.field 32 (.agg #[.string t, .int .i64 a5, .int .i64 c5, .int .i64 o5, .bool l5]) 0).run Tryz.prog ww = .ok (.string t) ww := fun _ => by kernel_rfl
      go_wp2_with fail
      refine Calls.mono (HU1.out _) ?_
      rintro e w6 ⟨rfl, g6⟩
      have B6 : Below w.heap.size w w6 := by
        repeat (with_reducible first | exact Below.refl _ _ | refine b_s ?_ _ | refine b_a ?_ _ | refine Below.drew ?_ | refine below_drewN ?_ _ | refine b_t ?_ g6 | refine b_t ?_ g5 | refine b_t ?_ Br)
      go_wp2
      go_ret
      exact ⟨rfl, B6⟩
end Go.Proofs.YtlendfhehhacpaaGreat
namespace Go.Proofs.YtlendfhehhacpaaGreat.lookedP
open Go.ChangeShapes Go.WideShapes Go.ChangeAt Go.RowKit Go.Deep
theorem ownK : ownKnob Tryz.prog.godebug = none := by kernel_rfl
theorem laidOut : laidOutB Tryz.prog = true := by kernel_rfl
theorem part_le {H : Type} {d : DataW H} {l : List (DataW H)} (h : d ∈ l) : Rows.uptoBulk d ≤ Rows.uptoBulkAll l := by
  induction l with
  | nil => cases h
  | cons x r ih =>
    simp only [Rows.uptoBulkAll]
    cases List.mem_cons.1 h with
    | inl e => subst e; omega
    | inr e => have := ih e; omega
theorem contract (HA : AnyOk) (H : Type) (enc : TypeId × Value → H) (W : World) (base : Nat) (args : Array Value) (ds gs : List (DataW H)) (before : List MemPlace)
    (hval : ∀ (j : Nat) t v, Tryz.f8.params[j]? = some t → args[j]? = some v → Value.okWide Tryz.prog W .any base t v)
    (hW : DataW.Whole enc Tryz.prog Tryz.f8.params.toList Rows.lookedSpec.vars false W args.toList ds gs before) (hk : Rows.uptoSmall H (ds ++ gs) = true) :
    Calls Tryz.prog 8 args W fun e W' => ∃ v, e = .returned v ∧ Rows.lookedSpec.post enc Tryz.prog Tryz.f8 false true false false W args v W' := by
  have hW' := hW
  obtain ⟨p, q, hA0, hV, rfl, hfz, hnd⟩ := hW
  have hA : DataW.TrodAll enc Tryz.prog W 0 (fun _ => true) true Tryz.f8.params.toList args.toList ds p := hA0
  rw [Tryz.params8] at hA hval
  obtain ⟨v0, v1, d0, d1, p0, p1, rfl, rfl, rfl, h0, h1⟩ := trodAll_two hA
  obtain ⟨rfl, rfl⟩ := trodVars_none hV
  clear hA0
  simp only [List.append_nil] at hW' hk
  have hb : Rows.uptoBulkAll [d0, d1] ≤ 1048576 := of_decide_eq_true hk
  have hb0 : Rows.uptoBulk d0 ≤ 1048576 := Nat.le_trans (part_le (by simp)) hb
  have hb1 : Rows.uptoBulk d1 ≤ 1048576 := Nat.le_trans (part_le (by simp)) hb
  have hlt : ∀ x ∈ p0 ++ p1, x.block < W.heap.size := fun x hx => hW'.lt x (by simpa using hx)
  have fin : ∀ W', Below W.heap.size W W' → Rows.lookedSpec.post enc Tryz.prog Tryz.f8 false true false false W #[v0, v1] (.bool true) W' := by
    intro W' hB
    refine ⟨[d0, d1], [], _, [], p0 ++ p1, [], hW', ?_, ?_, ?_, hB.frame _, fun h => by cases h⟩
    · exact trodAll_cons_mk (shut_bool Tryz.underlying4 _) trodAll_mk0
    · exact trodAll_mk2 (Below.trod laidOut (by kernel_rfl) (of_decide_eq_true (by kernel_rfl)) h0 hB (fun x hx => hlt x (by simp [hx]))) (Below.trod laidOut (by kernel_rfl) (of_decide_eq_true (by kernel_rfl)) h1 hB (fun x hx => hlt x (by simp [hx])))
    · rfl
  obtain ⟨s0, rfl⟩ := okWide_string Tryz.underlying9 (hval 0 9 v0 rfl rfl)
  obtain ⟨fuel0, hf0⟩ := h0
  obtain ⟨y0, ey0, hx0, _⟩ := DataW.trod_string Tryz.underlying9 hf0
  simp [Value.cells] at ey0
  subst ey0
  simp only [Prod.mk.injEq] at hx0
  obtain ⟨rfl, rfl⟩ := hx0
  obtain ⟨s1, rfl⟩ := okWide_string Tryz.underlying9 (hval 1 9 v1 rfl rfl)
  obtain ⟨fuel1, hf1⟩ := h1
  obtain ⟨y1, ey1, hx1, _⟩ := DataW.trod_string Tryz.underlying9 hf1
  simp [Value.cells] at ey1
  subst ey1
  simp only [Prod.mk.injEq] at hx1
  obtain ⟨rfl, rfl⟩ := hx1
  have z0 : s0.size ≤ 1048576 := by
    simp only [Rows.uptoBulk] at hb0
    have e : s0.data.toList.length = s0.size := by rw [Array.length_toList]; rfl
    omega
  have z1 : s1.size ≤ 1048576 := by
    simp only [Rows.uptoBulk] at hb1
    have e : s1.data.toList.length = s1.size := by rw [Array.length_toList]; rfl
    omega
  refine Calls.mono (kLooked HA s0 s1 W z0 z1) ?_
  rintro e W' ⟨rfl, hB⟩
  exact ⟨_, rfl, fin W' hB⟩
theorem lifted (HA : AnyOk) (os : Os) (started : os.Started) (H : Type) (enc : TypeId × Value → H) (F : Stop.Interp) :
    ReturnsInHanded {} Tryz.checked os 8 .any ((Rows.OpenSpec.upto Rows.lookedSpec).pre6 enc Tryz.prog Tryz.f8 Rows.lookedUptoRow.domain false) (((Rows.OpenSpec.upto Rows.lookedSpec).at F).post enc Tryz.prog Tryz.f8 false true false false) := by
  refine returnsInHanded_of_cond (C := Tryz.checked) (s := Rows.OpenSpec.upto Rows.lookedSpec) (k := Rows.uptoSmall) rfl ownK started (by kernel_rfl) Tryz.func8
    (OpenSpec.witness (enc := enc) (C := Tryz.checked) (s := Rows.OpenSpec.upto Rows.lookedSpec) (k := Rows.uptoSmall) rfl false ⟨#[], #[.string ⟨#[]⟩, .string ⟨#[]⟩], []⟩ 8 (by kernel_rfl) (by kernel_rfl) (by kernel_rfl)
      (x := ([.lit (.string []), .lit (.string [])], [], [])) (by kernel_rfl) rfl (by kernel_rfl)) ?_
  intro W base args ds gs before hval hW _ hk _
  exact contract HA H enc W base args ds gs before hval hW hk
theorem given (HA : AnyOk) : Rows.LookedUptoSaid :=
  OpenClaim.holds_of_cond 8 Tryz.f8 rfl rfl rfl rfl rfl rfl rfl ⟨rfl, rfl, rfl, rfl, rfl⟩ rfl rfl rfl rfl rfl (by kernel_rfl) Tryz.func8 (by kernel_rfl)
    (of_decide_eq_true (by kernel_rfl)) (by unfold Func.isWrapper; first | (rw [if_pos (by decide +kernel)]; kernel_rfl) | (rw [if_neg (by decide +kernel)]; exact ⟨rfl, rfl⟩))
    (fun os started H enc _ F => lifted HA os started H enc F)
end Go.Proofs.YtlendfhehhacpaaGreat.lookedP
