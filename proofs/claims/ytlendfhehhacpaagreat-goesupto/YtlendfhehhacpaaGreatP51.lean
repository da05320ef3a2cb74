/- Joined of the texts LawL. -/
import Derived.Test.YtlendfhehhacpaaGreatP50
set_option linter.unusedVariables false
set_option linter.unusedSimpArgs false
set_option maxRecDepth 100000
set_option maxHeartbeats 8000000
namespace Go.Proofs.YtlendfhehhacpaaGreat
open Go.RowKit
structure Script (w : World) (ao : Option Addr) (len : Nat) (B off : Nat) (K : Nat → Int × Int × ByteArray) : Prop where
  ao' : 0 < len → ao = some ⟨B, off, none⟩
  c0 : ∀ k, k < len → w.cell? ⟨B, off + k * 3, none⟩ = some (.int .i64 (K k).1)
  c1 : ∀ k, k < len → w.cell? ⟨B, off + k * 3 + 1, none⟩ = some (.int .i64 (K k).2.1)
  c2 : ∀ k, k < len → w.cell? ⟨B, off + k * 3 + 2, none⟩ = some (.string (K k).2.2)
  le : len ≤ 1048576
  sz : ∀ k, k < len → (K k).2.2.size ≤ 1048576
  nn : ∀ k, k < len → -9223372036854775808 ≤ (K k).2.1 ∧ (K k).2.1 ≤ 9223372036854775807
theorem infoPl : (Tryz.prog.info? 56).map (fun i => (i.zero, i.size, i.bytes)) = some (some (.pointer none), 1, 8) := by kernel_rfl
theorem plays_any (HA : AnyOk) (ao : Option Addr) (len cap B off : Nat) (K : Nat → Int × Int × ByteArray) (w : World) (h : Script w ao len B off K) :
    Calls Tryz.prog 13 #[.slice ao len cap, .int .i64 1] w fun e w' => e = .returned (.bool true) ∧ Below w.heap.size w w' := by
  obtain ⟨hao, hc0, hc1, hc2, hlen, hsz, hnn⟩ := h
  have HA' : Hid AnyOk := HA
  have HS : Hid (∀ x ww, PlAt ww x → Calls Tryz.prog 29 #[.pointer (some ⟨x.k, 0, none⟩)] ww fun e w' => e = .returned (.bool true) ∧ Below ww.heap.size ww w') := fun x ww hh => lawSeen_any x ww hh
  clear HA
  go_enter Tryz.func13, Tryz.ntmps13
  go_wp2
  go_loopw [5, 6] (fun v i wr => ∃ k : Nat, k ≤ len ∧ i = .int .i64 k ∧ Below w.heap.size w wr ∧ ∃ xs, Team w.heap.size wr v xs (k * 1048576)) (fun _ i _ => len - (intOf i).toNat)
  case atStart => exact ⟨0, Nat.zero_le _, rfl, Below.refl _ _, [], Team.nil _ _ _⟩
  case round =>
    obtain ⟨k, hk, rfl, hB, xs, hT⟩ := hrel
    by_cases hlt : k < len
    · have hz := hB.size
      have hab := hao (by omega)
      subst hab
      have e0 : wr.cell? ⟨B, off + k * 3, none⟩ = some (.int .i64 (K k).1) := memLater hB (hc0 k hlt)
      have e1 : wr.cell? ⟨B, off + k * 3 + 1, none⟩ = some (.int .i64 (K k).2.1) := memLater hB (hc1 k hlt)
      have e2 : wr.cell? ⟨B, off + k * 3 + 2, none⟩ = some (.string (K k).2.2) := memLater hB (hc2 k hlt)
      have hsk := hsz k hlt
      have hnk := hnn k hlt
      generalize (K k).1 = KD at *
      generalize (K k).2.1 = KN at *
      generalize (K k).2.2 = KS at *
      obtain ⟨ao2, cap2, rfl, hsh⟩ := hT.shape
      have hl3 := hT.le
      have HSH : Hid _ := hsh
      have HT : Hid (Team w.heap.size wr (.slice ao2 xs.length cap2) xs (k * 1048576)) := hT
      clear hT hsh hc0 hc1 hc2 hsz hnn hao
      by_cases k1 : KD = 1
      · by_cases hS : 1000 < KS.size
        · have HN1 : Hid (∀ ww, Calls Tryz.prog 24 #[.string KS] ww fun r w' => r = .returned (.tuple #[.pointer none, .int .i64 1]) ∧ w' = ww) := fun ww => nNew_long KS ww hS
          have HN2 : Hid (∀ ww, Calls Tryz.prog 25 #[.string KS] ww fun r w' => r = .returned (.tuple #[.pointer none, .int .i64 1]) ∧ w' = ww) := fun ww => refNew_long KS ww hS
          subst k1
          clear hS
          go_wp2_with fail
          refine Calls.mono (HN1.out _) ?_
          rintro e w1 ⟨rfl, rfl⟩
          go_wp2_with fail
          refine Calls.mono (HN2.out _) ?_
          rintro e w2 ⟨rfl, rfl⟩
          go_wp2
          go_loopw [14] (fun j wi => ∃ n : Nat, n ≤ xs.length ∧ j = .int .i64 n ∧ Below w.heap.size w wi ∧ Team w.heap.size wi (.slice ao2 xs.length cap2) xs (k * 1048576)) (fun j _ => xs.length - (intOf j).toNat)
          case atStart => exact ⟨0, Nat.zero_le _, rfl, hB.alloc hz _, HT.out.alloc _⟩
          case round =>
            obtain ⟨n, hn, rfl, hBi, hTi⟩ := hrel
            by_cases hnl : n < xs.length
            · obtain ⟨gg, hgg, hcell⟩ := Team.cell hTi (i := n) (by omega)
              have hpl := hTi.pl n (by omega)
              have HTi : Hid _ := hTi
              clear hTi
              subst hgg
              go_wp2_with fail
              refine Calls.mono (HS.out _ _ hpl) ?_
              rintro e wj ⟨rfl, hj⟩
              have hBj : Hid (Below w.heap.size w wj) := hBi.trans (Below.mono hj hBi.size)
              have HTj : Hid _ := Team.below HTi.out hj
              clear hcell hpl hj hBi
              go_wp2
              go_roundw
              case rel => exact ⟨n + 1, by omega, by go_num, hBj.out, HTj.out⟩
              case measure => simp [intOf] <;> omega
            · have HTi : Hid _ := hTi
              clear hTi
              go_wp2
              go_roundw
              case rel => exact ⟨k + 1, by omega, by go_num, hBi, xs, Team.mono HTi.out (by omega)⟩
              case measure => simp [intOf] <;> omega
        · have HN1 : Hid (∀ ww, Calls Tryz.prog 24 #[.string KS] ww fun e w' => ∃ q b r d m : Nat, e = .returned (.tuple #[.pointer (some ⟨q, 0, none⟩), .int .i64 0]) ∧ w'.cell? ⟨q, 0, none⟩ = some (.pointer (some ⟨b, 0, none⟩)) ∧ NbAt w' b r d (newPg KS m) (.slice none 0 0) 0 ⟨#[]⟩ ∧ w'.heap[m]? = some (.map #[] 0) ∧
              ww.heap.size ≤ q ∧ ww.heap.size ≤ m ∧ ww.heap.size ≤ b ∧ ww.heap.size ≤ r ∧ ww.heap.size ≤ d ∧ q ≠ b ∧ q ≠ r ∧ q ≠ d ∧ m ≠ b ∧ m ≠ r ∧ m ≠ d ∧ q < w'.heap.size ∧ Below ww.heap.size ww w') := fun ww => nNew_ok KS ww (by omega)
          have HN2 : Hid (∀ ww, Calls Tryz.prog 25 #[.string KS] ww fun r w' => r = .returned (.tuple #[.pointer (some ⟨ww.heap.size, 0, none⟩), .int .i64 0]) ∧ EdAt w' ww.heap.size (newEd KS) (.slice none 0 0) (.slice none 0 0) ∧ Below ww.heap.size ww w') := fun ww => refNew_ok KS ww (by omega)
          subst k1
          have hS' : KS.size ≤ 1000 := by omega
          clear hS
          go_wp2_with fail
          refine Calls.mono (HN1.out _) ?_
          rintro e w1 ⟨q, b, r, d, m, rfl, hq, hN, hm, g1, g2, g3, g4, g5, n1, n2, n3, n4, n5, n6, ql, h1⟩
          have e2' := h1.cell (p := ⟨wr.heap.size, 2, none⟩) (by simp)
          have e2'' : w1.cell? ⟨wr.heap.size, 2, none⟩ = some (.string KS) := e2'.trans (by simp)
          have e0' := (h1.cell (p := ⟨wr.heap.size, 0, none⟩) (by simp)).trans (show _ = some (.int .i64 1) by simp)
          have hz1 := h1.size
          simp at hz1
          clear e2'
          go_wp2_with fail
          refine Calls.mono (HN2.out _) ?_
          rintro e w2 ⟨rfl, hE, h2⟩
          have e0 := memLater h2 e0'
          have hz2 := h2.size
          have T1 := HT.out.alloc (.cells #[.int .i64 1, .int .i64 KN, .string KS] 47)
          have T2 : Hid _ := Team.below (Team.below T1 h1) h2
          have B1 : Hid (Below w.heap.size w (wr.alloc (.cells #[.int .i64 1, .int .i64 KN, .string KS] 47))) := hB.alloc hz _
          have B2 : Hid (Below w.heap.size w w2) := (B1.out.trans (Below.mono h1 (by simp; omega))).trans (Below.mono h2 (by omega))
          clear e0' e2''
          by_cases hl : xs.length < 3
          · have hl' : (xs.length : Int) < 3 := by omega
            obtain ⟨PX, OX, FX⟩ := pl_new (w := wr.alloc (.cells #[.int .i64 1, .int .i64 KN, .string KS] 47)) hS' hq hN hm g1 g2 g3 g4 g5 n1 n2 n3 n4 n5 n6 hE h2 h1.size rfl
            generalize hXe : (⟨w2.heap.size, q, b, r, d, m, w1.heap.size, .slice none 0 0, 0, newEd KS, newPg KS m, .slice none 0 0, .slice none 0 0⟩ : Pl) = X at *
            have hXk : X.k = w2.heap.size := by rw [← hXe]
            have hXn : X.n = 0 := by rw [← hXe]
            have hXs : X.e.keys.size = 0 := by rw [← hXe]; rfl
            clear hXe hq hN hm hE g1 g2 g3 g4 g5 n1 n2 n3 n4 n5 n6 ql
            obtain ⟨i0, hi, hz0, hz1', hz2'⟩ := info_parts infoPl
            have T4 := (T2.out.alloc (.cells #[.pointer (some ⟨q, 0, none⟩), .pointer (some ⟨w1.heap.size, 0, none⟩)] 58)).alloc (.cells #[.pointer (some ⟨w2.heap.size, 0, none⟩)] 56)
            have HL : Hid ((ptrs xs).length = xs.length * 1) := T4.row.1
            have HN : Hid (∀ j u, [Value.pointer (some ⟨w2.heap.size, 0, none⟩)][j]? = some u → ((w2.alloc (.cells #[.pointer (some ⟨q, 0, none⟩), .pointer (some ⟨w1.heap.size, 0, none⟩)] 58)).alloc (.cells #[.pointer (some ⟨w2.heap.size, 0, none⟩)] 56)).cell? ((⟨w2.heap.size + 1, 0, none⟩ : Addr).add j) = some u) := by
              intro j u hj
              match j, hj with
              | 0, hj => simp at hj; subst hj; simp [Addr.add]
            have e04 := memLater ((Below.refl _ _).alloc (Nat.le_refl _) (.cells #[.pointer (some ⟨w2.heap.size, 0, none⟩)] 56)) (memLater ((Below.refl _ _).alloc (Nat.le_refl _) (.cells #[.pointer (some ⟨q, 0, none⟩), .pointer (some ⟨w1.heap.size, 0, none⟩)] 58)) e0)
            have PX4 := PX.alloc (.cells #[.pointer (some ⟨w2.heap.size, 0, none⟩)] 56)
            have U14 : Hid (∀ S, Upd S (wr.alloc (.cells #[.int .i64 1, .int .i64 KN, .string KS] 47)) ((w2.alloc (.cells #[.pointer (some ⟨q, 0, none⟩), .pointer (some ⟨w1.heap.size, 0, none⟩)] 58)).alloc (.cells #[.pointer (some ⟨w2.heap.size, 0, none⟩)] 56))) := fun S => (((Upd.of_below h1).below h2).alloc _).alloc _
            have B4 : Hid (Below w.heap.size w ((w2.alloc (.cells #[.pointer (some ⟨q, 0, none⟩), .pointer (some ⟨w1.heap.size, 0, none⟩)] 58)).alloc (.cells #[.pointer (some ⟨w2.heap.size, 0, none⟩)] 56))) := (B2.out.alloc (by omega) _).alloc (by simp; omega) _
            have hz4 : ((w2.alloc (.cells #[.pointer (some ⟨q, 0, none⟩), .pointer (some ⟨w1.heap.size, 0, none⟩)] 58)).alloc (.cells #[.pointer (some ⟨w2.heap.size, 0, none⟩)] 56)).heap.size = w2.heap.size + 2 := by simp
            have hz3 : (w2.alloc (.cells #[.pointer (some ⟨q, 0, none⟩), .pointer (some ⟨w1.heap.size, 0, none⟩)] 58)).heap.size = w2.heap.size + 1 := by simp
            have hzW : (wr.alloc (.cells #[.int .i64 1, .int .i64 KN, .string KS] 47)).heap.size = wr.heap.size + 1 := by simp
            rw [hz3, hzW] at FX
            have HROW : Hid _ := T4.row
            have T1' : Hid _ := T1
            have HPX4 : Hid _ := PX4
            have HFX : Hid _ := FX
            have HOX : Hid _ := OX
            by_cases hroom : ∃ g, ao2 = some ⟨g, 0, none⟩ ∧ xs.length + 1 ≤ cap2
            · obtain ⟨g, rfl, hr⟩ := hroom
              have hgr : g < wr.heap.size := (World.ownsRow.lt HT.out.row g rfl).2
              have hgB : w.heap.size ≤ g := (World.ownsRow.lt HT.out.row g rfl).1
              clear T1 T4 PX PX4 FX OX h1 h2 e0
              go_wp2_with (first
                | (at_builtin; refine wpList_append_fits _ rfl (.tmp 58) (.tmp 63) 49 rfl w.heap.size 56 i0 1 Tryz.underlying49 hi hz1' g xs.length cap2 (ptrs xs) rfl HROW.out ⟨w2.heap.size + 1, 0, none⟩ 1 1 [.pointer (some ⟨w2.heap.size, 0, none⟩)] rfl rfl HN.out (by intro u hu; simp at hu; subst hu; rfl) hr ?_; intro w5 hown hgrow; have U4 : Upd [g] ((w2.alloc (.cells #[.pointer (some ⟨q, 0, none⟩), .pointer (some ⟨w1.heap.size, 0, none⟩)] 58)).alloc (.cells #[.pointer (some ⟨w2.heap.size, 0, none⟩)] 56)) w5 := ⟨hgrow.os, hgrow.tape, hgrow.output, hgrow.size, fun k hk hk2 => hgrow.block k hk (by simp at hk2; simp [hk2])⟩; have e05 := U4.was e04 (by simp; omega); have hown' : Hid _ := hown; have HU4 : Hid _ := U4; clear hown hgrow U4 e04)
                | fail)
              have hX1 : ∀ a, a ∈ fp X → wr.heap.size + 1 ≤ a ∧ a < w2.heap.size + 1 := HFX.out
              have hXg : ∀ a, a ∈ fp X → a ∉ [g] := fun a ha hm => by simp at hm; have := (hX1 a ha).1; omega
              have hU4 := HU4.out
              have hz5 := hU4.size
              rw [hz4] at hz5
              obtain ⟨ys, hys, hTy⟩ : ∃ ys : List Pl, ys.length = xs.length + 1 ∧ Team w.heap.size w5 (.slice (some ⟨g, 0, none⟩) (xs.length + 1) cap2) ys (k * 1048576) := by
                refine ⟨xs ++ [X], by simp, Team.push T1'.out hl (HPX4.out.of_upd hU4 (hXg _ (by simp [fp])) (hXg _ (by simp [fp])) (hXg _ (by simp [fp])) (hXg _ (by simp [fp])) (fun y hy => hXg y (by simp [fp, hy]))) HOX.out ?_ ⟨by omega, by omega⟩ ?_ ?_ ?_ ?_⟩
                · intro a ha; rw [hzW]; have := hX1 a ha; omega
                · rw [hXk]; exact hown'.out
                · exact (U14.out _).trans (hU4.mono (by simp [own, Value.ownBlock]))
                · intro g' hg'
                  simp [Value.ownBlock] at hg'
                  subst hg'
                  exact ⟨Or.inl rfl, fun hm => hXg _ hm (by simp)⟩
                · rw [hzW]; omega
              have B5 : Hid (Below w.heap.size w w5) := by
                refine ⟨hU4.os.trans B4.out.os, hU4.tape.trans B4.out.tape, hU4.output.trans B4.out.output, Nat.le_trans B4.out.size hU4.size, fun i hi => ?_⟩
                exact (hU4.block i (Nat.lt_of_lt_of_le hi B4.out.size) (by simp; omega)).trans (B4.out.block i hi)
              have HTY5 : Hid _ := hTy
              clear hTy hU4 hX1 hXg
              go_loopw [14] (fun j wi => ∃ n : Nat, n ≤ (xs.length + 1) ∧ j = .int .i64 n ∧ Below w.heap.size w wi ∧ Team w.heap.size wi (.slice (some ⟨g, 0, none⟩) (xs.length + 1) cap2) ys (k * 1048576)) (fun j _ => (xs.length + 1) - (intOf j).toNat)
              case atStart => exact ⟨0, Nat.zero_le _, rfl, B5.out, HTY5.out⟩
              case round =>
                obtain ⟨n, hn, rfl, hBi, hTi⟩ := hrel
                by_cases hnl : n < (xs.length + 1)
                · obtain ⟨gg, hgg, hcell⟩ := Team.cell hTi (i := n) (by omega)
                  have hpl := hTi.pl n (by omega)
                  have HTi : Hid _ := hTi
                  clear hTi
                  injection hgg with hgg
                  injection hgg with hgg
                  subst hgg
                  go_wp2_with fail
                  refine Calls.mono (HS.out _ _ hpl) ?_
                  rintro e wj ⟨rfl, hj⟩
                  have hBj : Hid (Below w.heap.size w wj) := hBi.trans (Below.mono hj hBi.size)
                  have HTj : Hid _ := Team.below HTi.out hj
                  clear hcell hpl hj hBi
                  go_wp2
                  go_roundw
                  case rel => exact ⟨n + 1, by omega, by go_num, hBj.out, HTj.out⟩
                  case measure => simp [intOf] <;> omega
                · have HTi : Hid _ := hTi
                  clear hTi
                  go_wp2
                  go_roundw
                  case rel => exact ⟨k + 1, by omega, by go_num, hBi, ys, Team.mono HTi.out (by omega)⟩
                  case measure => simp [intOf] <;> omega
            · have HF : Hid (cap2 < xs.length + 1) := by
                rcases HROW.out.2 with ⟨e1, e2⟩ | ⟨g, cp, cur, e1, _⟩
                · injection e1 with e1 e3 e4; rw [Hid]; omega
                · injection e1 with e1 e3 e4
                  rw [Hid]
                  by_cases hq : cap2 < xs.length + 1
                  · exact hq
                  · exact absurd ⟨g, e1, by omega⟩ hroom
              have HNO : Hid (ao2 = none → xs.length = 0 ∧ cap2 = 0) := by
                intro ha
                rcases HROW.out.2 with ⟨e1, e2⟩ | ⟨g, cp, cur, e1, _⟩
                · injection e1 with e1 e3 e4; omega
                · injection e1 with e1 e3 e4; rw [ha] at e1; exact absurd e1 (by simp)
              have HO : Hid (∀ b', ao2 = some b' → ∀ j u, (ptrs xs)[j]? = some u → ((w2.alloc (.cells #[.pointer (some ⟨q, 0, none⟩), .pointer (some ⟨w1.heap.size, 0, none⟩)] 58)).alloc (.cells #[.pointer (some ⟨w2.heap.size, 0, none⟩)] 56)).cell? (b'.add j) = some u) := by
                intro b' hb' j u hu
                rcases HROW.out.2 with ⟨e1, e2⟩ | ⟨g, cp, cur, e1, _⟩
                · injection e1 with e1 e3 e4; rw [hb'] at e1; exact absurd e1 (by simp)
                · injection e1 with e1 e3 e4
                  rw [hb'] at e1
                  injection e1 with e1
                  subst e1
                  exact World.ownsRow.cells HROW.out (g := g) (by rw [hb']; rfl) j u hu
              clear hroom T1 T4 PX PX4 FX OX h1 h2 e0
              go_wp2_with (first
                | (at_builtin; refine wpList_append_grows _ rfl (.tmp 58) (.tmp 63) 49 rfl 56 i0 (.pointer none) 1 8 Tryz.underlying49 hi hz0 hz1' hz2' rfl (by decide) ao2 xs.length cap2 (ptrs xs) rfl HNO.out HL.out HO.out ⟨w2.heap.size + 1, 0, none⟩ 1 1 [.pointer (some ⟨w2.heap.size, 0, none⟩)] rfl rfl HN.out (by intro u hu; simp at hu; subst hu; rfl) HF.out (by unfold maxLen; omega) (by omega) ?_; intro v' w5 hown hgrow; obtain ⟨g', cp', rfl, hg'⟩ := owned_some hown (by omega); have U4 : Upd [] ((w2.alloc (.cells #[.pointer (some ⟨q, 0, none⟩), .pointer (some ⟨w1.heap.size, 0, none⟩)] 58)).alloc (.cells #[.pointer (some ⟨w2.heap.size, 0, none⟩)] 56)) w5 := ⟨hgrow.os, hgrow.tape, hgrow.output, hgrow.size, fun k hk hk2 => hgrow.block k hk (by simp)⟩; have e05 := U4.was e04 (by simp); have hown' : Hid _ := hown; have HU4 : Hid _ := U4; clear hown hgrow U4 e04)
                | fail)
              rw [hz4] at hg'
              have hX1 : ∀ a, a ∈ fp X → wr.heap.size + 1 ≤ a ∧ a < w2.heap.size + 1 := HFX.out
              have hU4 := HU4.out
              have hz5 := hU4.size
              rw [hz4] at hz5
              obtain ⟨ys, hys, hTy⟩ : ∃ ys : List Pl, ys.length = xs.length + 1 ∧ Team w.heap.size w5 (.slice (some ⟨g', 0, none⟩) (xs.length + 1) cp') ys (k * 1048576) := by
                refine ⟨xs ++ [X], by simp, Team.push T1'.out hl (HPX4.out.of_upd hU4 (by simp) (by simp) (by simp) (by simp) (by simp)) HOX.out ?_ ⟨by omega, by omega⟩ ?_ ?_ ?_ ?_⟩
                · intro a ha; rw [hzW]; have := hX1 a ha; omega
                · rw [hXk]; exact ownsRow_base hown'.out (by rw [hz4]; omega)
                · exact (U14.out _).trans (hU4.mono (by simp))
                · intro g2 hg2
                  simp [Value.ownBlock] at hg2
                  subst hg2
                  refine ⟨Or.inr (by rw [hzW]; omega), fun hm => ?_⟩
                  have := (hX1 _ hm).2; omega
                · rw [hzW]; omega
              have B5 : Hid (Below w.heap.size w w5) := by
                refine ⟨hU4.os.trans B4.out.os, hU4.tape.trans B4.out.tape, hU4.output.trans B4.out.output, Nat.le_trans B4.out.size hU4.size, fun i hi => ?_⟩
                exact (hU4.block i (Nat.lt_of_lt_of_le hi B4.out.size) (by simp)).trans (B4.out.block i hi)
              have HTY5 : Hid _ := hTy
              clear hTy hU4 hX1 hg'
              go_loopw [14] (fun j wi => ∃ n : Nat, n ≤ (xs.length + 1) ∧ j = .int .i64 n ∧ Below w.heap.size w wi ∧ Team w.heap.size wi (.slice (some ⟨g', 0, none⟩) (xs.length + 1) cp') ys (k * 1048576)) (fun j _ => (xs.length + 1) - (intOf j).toNat)
              case atStart => exact ⟨0, Nat.zero_le _, rfl, B5.out, HTY5.out⟩
              case round =>
                obtain ⟨n, hn, rfl, hBi, hTi⟩ := hrel
                by_cases hnl : n < (xs.length + 1)
                · obtain ⟨gg, hgg, hcell⟩ := Team.cell hTi (i := n) (by omega)
                  have hpl := hTi.pl n (by omega)
                  have HTi : Hid _ := hTi
                  clear hTi
                  injection hgg with hgg
                  injection hgg with hgg
                  subst hgg
                  go_wp2_with fail
                  refine Calls.mono (HS.out _ _ hpl) ?_
                  rintro e wj ⟨rfl, hj⟩
                  have hBj : Hid (Below w.heap.size w wj) := hBi.trans (Below.mono hj hBi.size)
                  have HTj : Hid _ := Team.below HTi.out hj
                  clear hcell hpl hj hBi
                  go_wp2
                  go_roundw
                  case rel => exact ⟨n + 1, by omega, by go_num, hBj.out, HTj.out⟩
                  case measure => simp [intOf] <;> omega
                · have HTi : Hid _ := hTi
                  clear hTi
                  go_wp2
                  go_roundw
                  case rel => exact ⟨k + 1, by omega, by go_num, hBi, ys, Team.mono HTi.out (by omega)⟩
                  case measure => simp [intOf] <;> omega
          · have hl' : ¬ (xs.length : Int) < 3 := by omega
            clear hq hN hm hE T1
            go_wp2
            go_loopw [14] (fun j wi => ∃ n : Nat, n ≤ xs.length ∧ j = .int .i64 n ∧ Below w.heap.size w wi ∧ Team w.heap.size wi (.slice ao2 xs.length cap2) xs (k * 1048576)) (fun j _ => xs.length - (intOf j).toNat)
            case atStart => exact ⟨0, Nat.zero_le _, rfl, B2.out, T2.out⟩
            case round =>
              obtain ⟨n, hn, rfl, hBi, hTi⟩ := hrel
              by_cases hnl : n < xs.length
              · obtain ⟨gg, hgg, hcell⟩ := Team.cell hTi (i := n) (by omega)
                have hpl := hTi.pl n (by omega)
                have HTi : Hid _ := hTi
                clear hTi
                subst hgg
                go_wp2_with fail
                refine Calls.mono (HS.out _ _ hpl) ?_
                rintro e wj ⟨rfl, hj⟩
                have hBj : Hid (Below w.heap.size w wj) := hBi.trans (Below.mono hj hBi.size)
                have HTj : Hid _ := Team.below HTi.out hj
                clear hcell hpl hj hBi
                go_wp2
                go_roundw
                case rel => exact ⟨n + 1, by omega, by go_num, hBj.out, HTj.out⟩
                case measure => simp [intOf] <;> omega
              · have HTi : Hid _ := hTi
                clear hTi
                go_wp2
                go_roundw
                case rel => exact ⟨k + 1, by omega, by go_num, hBi, xs, Team.mono HTi.out (by omega)⟩
                case measure => simp [intOf] <;> omega
      · by_cases k2 : KD = 2
        · by_cases hx : xs.length = 0
          · have hx' : ¬ (0 : Int) < (xs.length : Int) := by omega
            clear hx
            go_wp2
            go_loopw [14] (fun j wi => ∃ n : Nat, n ≤ xs.length ∧ j = .int .i64 n ∧ Below w.heap.size w wi ∧ Team w.heap.size wi (.slice ao2 xs.length cap2) xs (k * 1048576)) (fun j _ => xs.length - (intOf j).toNat)
            case atStart => exact ⟨0, Nat.zero_le _, rfl, hB.alloc hz _, HT.out.alloc _⟩
            case round =>
              obtain ⟨n, hn, rfl, hBi, hTi⟩ := hrel
              by_cases hnl : n < xs.length
              · obtain ⟨gg, hgg, hcell⟩ := Team.cell hTi (i := n) (by omega)
                have hpl := hTi.pl n (by omega)
                have HTi : Hid _ := hTi
                clear hTi
                subst hgg
                go_wp2_with fail
                refine Calls.mono (HS.out _ _ hpl) ?_
                rintro e wj ⟨rfl, hj⟩
                have hBj : Hid (Below w.heap.size w wj) := hBi.trans (Below.mono hj hBi.size)
                have HTj : Hid _ := Team.below HTi.out hj
                clear hcell hpl hj hBi
                go_wp2
                go_roundw
                case rel => exact ⟨n + 1, by omega, by go_num, hBj.out, HTj.out⟩
                case measure => simp [intOf] <;> omega
              · have HTi : Hid _ := hTi
                clear hTi
                go_wp2
                go_roundw
                case rel => exact ⟨k + 1, by omega, by go_num, hBi, xs, Team.mono HTi.out (by omega)⟩
                case measure => simp [intOf] <;> omega
          · have hx' : (0 : Int) < (xs.length : Int) := by omega
            obtain ⟨pk, hpk⟩ := Int.eq_ofNat_of_zero_le (pickOf_in KN xs.length hx').1
            have hpl : pk < xs.length := by have := (pickOf_in KN xs.length hx').2; omega
            have HP : Hid (∀ ww, Calls Tryz.prog 26 #[.int .i64 KN, .int .i64 xs.length] ww fun e w' => e = .returned (.int .i64 pk) ∧ w' = ww) := by
              intro ww
              have := lawPick_any KN xs.length ww hnk (by omega) (by omega)
              rw [hpk] at this
              exact this
            have HK : Hid (∀ ww, Calls Tryz.prog 27 #[.string KS, .int .i64 1] ww fun e w' => e = .returned (.string (keptOf KS 1)) ∧ Below ww.heap.size ww w') := fun ww => lawKept_any KS 1 ww (by omega)
            obtain ⟨gg, hgg, hcell⟩ := Team.cell HT.out hpl
            subst hgg
            have hks := keptOf_size KS 1
            obtain ⟨te, tp, tN, hTy⟩ := type_any HA'.out (keptOf KS 1) (HT.out.pl pk hpl).good (keptOf_key1 KS) (by have := (HT.out.sz pk hpl).2; have := lim_eq; omega)
            have hok := HT.out.ok pk hpl
            have hsx := HT.out.sz pk hpl
            have HT1 : Hid (∀ ww, PlAt ww (xs[pk]'hpl) → Calls Tryz.prog 17 #[.pointer (some ⟨(xs[pk]'hpl).q, 0, none⟩), .string (keptOf KS 1)] ww fun e w' => e = .returned (.int .i64 tN) ∧ ∃ tv' n', NbAt w' (xs[pk]'hpl).b (xs[pk]'hpl).r (xs[pk]'hpl).d tp tv' n' ⟨#[]⟩ ∧ n' ≤ (xs[pk]'hpl).n + (keptOf KS 1).size ∧ Fresh ww (xs[pk]'hpl).tv tv' ∧ Upd (blks (xs[pk]'hpl).b (xs[pk]'hpl).r (xs[pk]'hpl).d (xs[pk]'hpl).tv) ww w') :=
              fun ww hh => nType _ _ _ ww tN _ hh.cq (fun w2 e => by subst e; exact hTy.prog _ _ _ _ _ _ w2 hh.nb (by have := lim_eq; omega))
            have HT2 : Hid (∀ ww, EdAt ww (xs[pk]'hpl).rb (xs[pk]'hpl).e (xs[pk]'hpl).dv (xs[pk]'hpl).uv → Calls Tryz.prog 28 #[.pointer (some ⟨(xs[pk]'hpl).rb, 0, none⟩), .string (keptOf KS 1)] ww fun r w' => r = .returned (.int .i64 tN) ∧ EdAt w' (xs[pk]'hpl).rb te (xs[pk]'hpl).dv (xs[pk]'hpl).uv ∧ Upd [(xs[pk]'hpl).rb] ww w') := fun ww hh => hTy.ref _ _ _ ww hh
            have HTY : Hid (Typed (xs[pk]'hpl).m (keptOf KS 1) (xs[pk]'hpl).e (xs[pk]'hpl).p te tp tN) := hTy
            have HX : Hid (∃ x, x = xs[pk]'hpl) := ⟨_, rfl⟩
            have hcell' : (wr.alloc (.cells #[.int .i64 KD, .int .i64 KN, .string KS] 47)).cell? ⟨gg, pk, none⟩ = some (.pointer (some ⟨(xs[pk]'hpl).k, 0, none⟩)) := memLater ((Below.refl _ _).alloc (Nat.le_refl _) _) hcell
            generalize hXX : xs[pk]'hpl = X at *
            have HXX : Hid (∀ h, xs[pk]'h = X) := fun _ => hXX
            generalize hKK : keptOf KS 1 = KK at *
            clear hpk hTy hXX hKK HX
            subst k2
            go_wp2_with fail
            refine Calls.mono (HP.out _) ?_
            rintro e w1 ⟨rfl, rfl⟩
            go_wp2_with fail
            refine Calls.mono (HK.out _) ?_
            rintro e w3 ⟨rfl, h3⟩
            have T3 := Team.below (HT.out.alloc (.cells #[.int .i64 2, .int .i64 KN, .string KS] 47)) h3
            have B3 : Hid (Below w.heap.size w w3) := (hB.alloc hz _).trans (Below.mono h3 (by simp; omega))
            have P3 : PlAt w3 X := by have := T3.pl pk hpl; rw [HXX.out] at this; exact this
            have P3d := P3.drew
            have c0 := P3.c0
            have c1 := P3.c1
            have T3d : Hid _ := T3.drew
            clear T3 h3 hcell hcell'
            go_wp2_with fail
            go_region_held3 (fun ww => ww.cell? ⟨X.k, 0, none⟩ = some (.pointer (some ⟨X.q, 0, none⟩)) ∧ ww.cell? ⟨X.k, 1, none⟩ = some (.pointer (some ⟨X.rb, 0, none⟩))) ((refine ⟨?_, ?_⟩ <;> (first | (with_reducible assumption) | (go_simp; done)))) (first | (go_at_call 17; refine Calls.mono (HT1.out _ P3d) ?_; rintro ea w4 ⟨rfl, tv', n', N4, n4, f4, u4⟩; have g0 := u4.was P3d.c0 hok.k1; have g1 := u4.was P3d.c1 hok.k1) | (go_at_call 28; refine Calls.mono (HT2.out _ (P3d.ed.upd u4 hok.r1)) ?_; rintro eb w5 ⟨rfl, E5, u5⟩; have g2 := u5.was g0 (by simp; exact fun e => hok.rk e.symm); have g3 := u5.was g1 (by simp; exact fun e => hok.rk e.symm)))
            obtain ⟨PN, ON, FN, UN⟩ := pl_typed P3d hok HTY.out N4 f4 u4 E5 u5
            have hj3 : Hid (xs[pk]'hpl = X) := HXX.out _
            obtain ⟨ys, hys, hTy⟩ : ∃ ys : List Pl, ys.length = xs.length ∧ Team w.heap.size w5 (.slice (some ⟨gg, 0, none⟩) xs.length cap2) ys ((k + 1) * 1048576) := by
              refine ⟨xs.set pk { X with tv := tv', n := n', e := te, p := tp }, by simp, ?_⟩
              refine Team.turn T3d.out hpl (by rw [hj3.out]) PN ON (by omega) ⟨?_, ?_⟩ ?_ ?_ ?_
              · show n' ≤ _; omega
              · have := HTY.out.ks; show te.keys.size ≤ _; omega
              · rw [hj3.out]; exact FN
              · rw [hj3.out]; exact UN
              · have := B3.out.size; exact this
            have B5 : Hid (Below w.heap.size w w5) := by
              refine ⟨?_, ?_, ?_, ?_, ?_⟩
              · exact UN.os.trans B3.out.os
              · exact UN.tape.trans B3.out.tape
              · exact UN.output.trans B3.out.output
              · exact Nat.le_trans B3.out.size UN.size
              · intro i hi
                have hi3 : i < w3.heap.size := Nat.lt_of_lt_of_le hi B3.out.size
                have hni : i ∉ fp X := by
                  intro hm
                  have := (T3d.out.old pk hpl i (by rw [hj3.out]; exact hm)).1
                  omega
                exact (UN.block i hi3 hni).trans (B3.out.block i hi)
            have HTY5 : Hid _ := hTy
            clear hTy PN ON FN UN N4 f4 u4 E5 u5 g0 g1 g2 g3 P3 P3d c0 c1
            go_wp2
            go_loopw [14] (fun j wi => ∃ n : Nat, n ≤ xs.length ∧ j = .int .i64 n ∧ Below w.heap.size w wi ∧ Team w.heap.size wi (.slice (some ⟨gg, 0, none⟩) xs.length cap2) ys ((k + 1) * 1048576)) (fun j _ => xs.length - (intOf j).toNat)
            case atStart => exact ⟨0, Nat.zero_le _, rfl, B5.out, HTY5.out⟩
            case round =>
              obtain ⟨n, hn, rfl, hBi, hTi⟩ := hrel
              by_cases hnl : n < xs.length
              · obtain ⟨gg, hgg, hcell⟩ := Team.cell hTi (i := n) (by omega)
                have hpl := hTi.pl n (by omega)
                have HTi : Hid _ := hTi
                clear hTi
                injection hgg with hgg
                injection hgg with hgg
                subst hgg
                go_wp2_with fail
                refine Calls.mono (HS.out _ _ hpl) ?_
                rintro e wj ⟨rfl, hj⟩
                have hBj : Hid (Below w.heap.size w wj) := hBi.trans (Below.mono hj hBi.size)
                have HTj : Hid _ := Team.below HTi.out hj
                clear hcell hpl hj hBi
                go_wp2
                go_roundw
                case rel => exact ⟨n + 1, by omega, by go_num, hBj.out, HTj.out⟩
                case measure => simp [intOf] <;> omega
              · have HTi : Hid _ := hTi
                clear hTi
                go_wp2
                go_roundw
                case rel => exact ⟨k + 1, by omega, by go_num, hBi, ys, Team.mono HTi.out (by omega)⟩
                case measure => simp [intOf] <;> omega
        · have k1' : (KD == 1) = false := by simp [k1]
          have k2' : (KD == 2) = false := by simp [k2]
          go_wp2
          go_loopw [14] (fun j wi => ∃ n : Nat, n ≤ xs.length ∧ j = .int .i64 n ∧ Below w.heap.size w wi ∧ Team w.heap.size wi (.slice ao2 xs.length cap2) xs (k * 1048576)) (fun j _ => xs.length - (intOf j).toNat)
          case atStart => exact ⟨0, Nat.zero_le _, rfl, hB.alloc hz _, HT.out.alloc _⟩
          case round =>
            obtain ⟨n, hn, rfl, hBi, hTi⟩ := hrel
            by_cases hnl : n < xs.length
            · obtain ⟨gg, hgg, hcell⟩ := Team.cell hTi (i := n) (by omega)
              have hpl := hTi.pl n (by omega)
              have HTi : Hid _ := hTi
              clear hTi
              subst hgg
              go_wp2_with fail
              refine Calls.mono (HS.out _ _ hpl) ?_
              rintro e wj ⟨rfl, hj⟩
              have hBj : Hid (Below w.heap.size w wj) := hBi.trans (Below.mono hj hBi.size)
              have HTj : Hid _ := Team.below HTi.out hj
              clear hcell hpl hj hBi
              go_wp2
              go_roundw
              case rel => exact ⟨n + 1, by omega, by go_num, hBj.out, HTj.out⟩
              case measure => simp [intOf] <;> omega
            · have HTi : Hid _ := hTi
              clear hTi
              go_wp2
              go_roundw
              case rel => exact ⟨k + 1, by omega, by go_num, hBi, xs, Team.mono HTi.out (by omega)⟩
              case measure => simp [intOf] <;> omega
    · have hkn : k = len := by omega
      go_wp2
      go_ret
      exact ⟨rfl, hB⟩
end Go.Proofs.YtlendfhehhacpaaGreat
