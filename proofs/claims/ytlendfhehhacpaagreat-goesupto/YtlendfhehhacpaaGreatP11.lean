/- Joined of the texts WalkB, WalkC. -/
import Derived.Test.YtlendfhehhacpaaGreatP05
import Derived.Test.YtlendfhehhacpaaGreatP01
set_option linter.unusedVariables false
set_option linter.unusedSimpArgs false
set_option maxRecDepth 100000
set_option maxHeartbeats 8000000
namespace Go.Proofs.YtlendfhehhacpaaGreat
open Go.RowKit
theorem wordStep_any (s : ByteArray) (r : Int) (g : Bool) (w : World) (hs : s.size ≤ 1000) (h0 : 0 ≤ r) (hr : r ≤ s.size) :
    Calls Tryz.prog 119 #[.string s, .int .i64 r, .bool g] w fun e w' => e = .returned (.int .i64 (Nib.wstep s g r.toNat)) ∧ w' = w := by
  obtain ⟨r, rfl⟩ := Int.eq_ofNat_of_zero_le h0
  rw [Int.toNat_natCast]
  have HW : Hid (Nib.wstep s g r = Nib.up (Nib.wgap s r) s.size (Nib.wfrom s r g)) := rfl
  generalize Nib.wstep s g r = res at HW ⊢
  by_cases hc : r < s.size ∧ Nib.spc (Nib.bt s r) = false
  · obtain ⟨hlt, hsp⟩ := hc
    have HF : Hid (Nib.wfrom s r g = Nib.up (Nib.like s r g) s.size r) := by simp [Hid, Nib.wfrom, Nib.wrun, hlt, hsp]
    have HB : Hid (Nib.bt s r = ((s[r]'hlt).toNat : Int)) := Nib.bt_in hlt
    rw [Nib.bt_in hlt] at hsp
    go_enter Tryz.func119, Tryz.ntmps119
    go_wp2_with fail
    refine (space_any _ _).mono ?_
    rintro e w' ⟨rfl, rfl⟩
    go_wp2_with fail
    refine (class_any _ _ _).mono ?_
    rintro e w' ⟨rfl, rfl⟩
    go_wp2
    go_loop [7] (fun i => ∃ k : Nat, r ≤ k ∧ k ≤ s.size ∧ i = .int .i64 k ∧ Hid (Nib.up (Nib.like s r g) s.size k = Nib.wfrom s r g)) (fun i => s.size - (intOf i).toNat)
    case atStart => exact ⟨r, by omega, by omega, rfl, HF.out.symm⟩
    case round =>
      clear HF
      obtain ⟨k, hk0, hk, rfl, hu⟩ := hrel
      by_cases hlt' : k < s.size
      · cases hl : Nib.like s r g k with
        | true =>
          have HS : Hid (Nib.up (Nib.like s r g) s.size (k + 1) = Nib.wfrom s r g) := by
            rw [Hid, ← hu.out, Nib.up_step hlt' hl]
          have hq : (Nib.cls ((s[k]'hlt').toNat : Int) g == Nib.cls ((s[r]'hlt).toNat : Int) g) = true := by
            rw [← Nib.bt_in hlt', ← HB.out]; exact hl
          clear hu hl
          go_wp2_with fail
          refine (class_any _ _ _).mono ?_
          rintro e w' ⟨rfl, rfl⟩
          go_wp2
          go_round
          case rel => exact ⟨k + 1, by omega, by omega, by go_num, HS⟩
          case measure => simp [intOf]; omega
        | false =>
          have HQ : Hid (k = Nib.wfrom s r g) := by
            rw [Hid, ← hu.out, Nib.up_stop]; simp [hl]
          have hq : (Nib.cls ((s[k]'hlt').toNat : Int) g == Nib.cls ((s[r]'hlt).toNat : Int) g) = false := by
            rw [← Nib.bt_in hlt', ← HB.out]; exact hl
          have QB : k ≤ s.size := hk
          clear hu hl
          go_wp2_with fail
          refine (class_any _ _ _).mono ?_
          rintro e w' ⟨rfl, rfl⟩
          go_wp2
          go_loop [7] (fun i => ∃ k : Nat, k ≤ s.size ∧ i = .int .i64 k ∧ Hid (Nib.up (Nib.wgap s r) s.size k = res)) (fun i => s.size - (intOf i).toNat)
          case atStart => exact ⟨_, QB, rfl, (HW.out.trans (congrArg (Nib.up (Nib.wgap s r) s.size) HQ.out.symm)).symm⟩
          case round =>
            clear HW HQ
            obtain ⟨k, hk, rfl, hu⟩ := hrel
            by_cases hlt : k < s.size
            · cases hsp : Nib.spc (Nib.bt s k) with
              | false =>
                have HS : Hid (k = res) := by
                  rw [Hid, ← hu.out, Nib.up_stop]; simp [Nib.wgap, hsp]
                rw [Nib.bt_in hlt] at hsp
                clear hu
                go_wp2_with fail
                refine (space_any _ _).mono ?_
                rintro e w' ⟨rfl, rfl⟩
                go_wp2
                go_ret
                exact ⟨ret_int (by rw [← HS.out]), rfl⟩
              | true =>
                have hsp2 := hsp
                rw [Nib.bt_in hlt] at hsp2
                by_cases he : Nib.emp s k = true ∧ k ≠ r
                · obtain ⟨he1, he2⟩ := he
                  have HS : Hid (k = res) := by
                    rw [Hid, ← hu.out, Nib.up_stop]; simp [Nib.wgap, hsp, he1, he2]
                  have hne : ((k : Int) != (r : Int)) = true := by simp; omega
                  clear hu hsp
                  go_wp2_with fail
                  refine (space_any _ _).mono ?_
                  rintro e w' ⟨rfl, rfl⟩
                  go_wp2_with fail
                  refine (empty_any s k _ hs (by omega) (by omega)).mono ?_
                  rintro e w' ⟨rfl, rfl⟩
                  simp only [Int.toNat_natCast]
                  go_wp2
                  go_ret
                  exact ⟨ret_int (by rw [← HS.out]), rfl⟩
                · have HS : Hid (Nib.up (Nib.wgap s r) s.size (k + 1) = res) := by
                    rw [Hid, ← hu.out, Nib.up_step hlt]; simp only [Nib.wgap, hsp, Bool.true_and, Bool.not_eq_true', Bool.and_eq_false_iff, bne_eq_false_iff_eq]
                    by_cases e1 : Nib.emp s k = true
                    · right; exact Classical.byContradiction fun e2 => he ⟨e1, e2⟩
                    · left; simpa using e1
                  clear hu hsp
                  cases he1 : Nib.emp s k with
                  | false =>
                    clear he
                    go_wp2_with fail
                    refine (space_any _ _).mono ?_
                    rintro e w' ⟨rfl, rfl⟩
                    go_wp2_with fail
                    refine (empty_any s k _ hs (by omega) (by omega)).mono ?_
                    rintro e w' ⟨rfl, rfl⟩
                    simp only [Int.toNat_natCast]
                    go_wp2
                    go_round
                    case rel => exact ⟨k + 1, by omega, by go_num, HS⟩
                    case measure => simp [intOf]; omega
                  | true =>
                    have hkr : k = r := Classical.byContradiction fun e2 => he ⟨he1, e2⟩
                    have hne : ((k : Int) != (r : Int)) = false := by simp; omega
                    clear he hkr
                    go_wp2_with fail
                    refine (space_any _ _).mono ?_
                    rintro e w' ⟨rfl, rfl⟩
                    go_wp2_with fail
                    refine (empty_any s k _ hs (by omega) (by omega)).mono ?_
                    rintro e w' ⟨rfl, rfl⟩
                    simp only [Int.toNat_natCast]
                    go_wp2
                    go_round
                    case rel => exact ⟨k + 1, by omega, by go_num, HS⟩
                    case measure => simp [intOf]; omega
            · have HS : Hid (k = res) := by
                rw [Hid, ← hu.out, Nib.up_stop]; simp [hlt]
              clear hu
              go_wp2
              go_ret
              exact ⟨ret_int (by rw [← HS.out]), rfl⟩
      · have HQ : Hid (k = Nib.wfrom s r g) := by
          rw [Hid, ← hu.out, Nib.up_stop]; simp [hlt']
        have QB : k ≤ s.size := hk
        clear hu
        go_wp2
        go_loop [7] (fun i => ∃ k : Nat, k ≤ s.size ∧ i = .int .i64 k ∧ Hid (Nib.up (Nib.wgap s r) s.size k = res)) (fun i => s.size - (intOf i).toNat)
        case atStart => exact ⟨_, QB, rfl, (HW.out.trans (congrArg (Nib.up (Nib.wgap s r) s.size) HQ.out.symm)).symm⟩
        case round =>
          clear HW HQ
          obtain ⟨k, hk, rfl, hu⟩ := hrel
          by_cases hlt : k < s.size
          · cases hsp : Nib.spc (Nib.bt s k) with
            | false =>
              have HS : Hid (k = res) := by
                rw [Hid, ← hu.out, Nib.up_stop]; simp [Nib.wgap, hsp]
              rw [Nib.bt_in hlt] at hsp
              clear hu
              go_wp2_with fail
              refine (space_any _ _).mono ?_
              rintro e w' ⟨rfl, rfl⟩
              go_wp2
              go_ret
              exact ⟨ret_int (by rw [← HS.out]), rfl⟩
            | true =>
              have hsp2 := hsp
              rw [Nib.bt_in hlt] at hsp2
              by_cases he : Nib.emp s k = true ∧ k ≠ r
              · obtain ⟨he1, he2⟩ := he
                have HS : Hid (k = res) := by
                  rw [Hid, ← hu.out, Nib.up_stop]; simp [Nib.wgap, hsp, he1, he2]
                have hne : ((k : Int) != (r : Int)) = true := by simp; omega
                clear hu hsp
                go_wp2_with fail
                refine (space_any _ _).mono ?_
                rintro e w' ⟨rfl, rfl⟩
                go_wp2_with fail
                refine (empty_any s k _ hs (by omega) (by omega)).mono ?_
                rintro e w' ⟨rfl, rfl⟩
                simp only [Int.toNat_natCast]
                go_wp2
                go_ret
                exact ⟨ret_int (by rw [← HS.out]), rfl⟩
              · have HS : Hid (Nib.up (Nib.wgap s r) s.size (k + 1) = res) := by
                  rw [Hid, ← hu.out, Nib.up_step hlt]; simp only [Nib.wgap, hsp, Bool.true_and, Bool.not_eq_true', Bool.and_eq_false_iff, bne_eq_false_iff_eq]
                  by_cases e1 : Nib.emp s k = true
                  · right; exact Classical.byContradiction fun e2 => he ⟨e1, e2⟩
                  · left; simpa using e1
                clear hu hsp
                cases he1 : Nib.emp s k with
                | false =>
                  clear he
                  go_wp2_with fail
                  refine (space_any _ _).mono ?_
                  rintro e w' ⟨rfl, rfl⟩
                  go_wp2_with fail
                  refine (empty_any s k _ hs (by omega) (by omega)).mono ?_
                  rintro e w' ⟨rfl, rfl⟩
                  simp only [Int.toNat_natCast]
                  go_wp2
                  go_round
                  case rel => exact ⟨k + 1, by omega, by go_num, HS⟩
                  case measure => simp [intOf]; omega
                | true =>
                  have hkr : k = r := Classical.byContradiction fun e2 => he ⟨he1, e2⟩
                  have hne : ((k : Int) != (r : Int)) = false := by simp; omega
                  clear he hkr
                  go_wp2_with fail
                  refine (space_any _ _).mono ?_
                  rintro e w' ⟨rfl, rfl⟩
                  go_wp2_with fail
                  refine (empty_any s k _ hs (by omega) (by omega)).mono ?_
                  rintro e w' ⟨rfl, rfl⟩
                  simp only [Int.toNat_natCast]
                  go_wp2
                  go_round
                  case rel => exact ⟨k + 1, by omega, by go_num, HS⟩
                  case measure => simp [intOf]; omega
          · have HS : Hid (k = res) := by
              rw [Hid, ← hu.out, Nib.up_stop]; simp [hlt]
            clear hu
            go_wp2
            go_ret
            exact ⟨ret_int (by rw [← HS.out]), rfl⟩
  · have HQ : Hid (r = Nib.wfrom s r g) := by simp [Hid, Nib.wfrom, hc]
    have QB : r ≤ s.size := by omega
    by_cases hlt : r < s.size
    · have hsp : Nib.spc (Nib.bt s r) = true := by
        cases h : Nib.spc (Nib.bt s r) with
        | true => rfl
        | false => exact absurd ⟨hlt, h⟩ hc
      rw [Nib.bt_in hlt] at hsp
      clear hc
      go_enter Tryz.func119, Tryz.ntmps119
      go_wp2_with fail
      refine (space_any _ _).mono ?_
      rintro e w' ⟨rfl, rfl⟩
      go_wp2
      go_loop [7] (fun i => ∃ k : Nat, k ≤ s.size ∧ i = .int .i64 k ∧ Hid (Nib.up (Nib.wgap s r) s.size k = res)) (fun i => s.size - (intOf i).toNat)
      case atStart => exact ⟨_, QB, rfl, (HW.out.trans (congrArg (Nib.up (Nib.wgap s r) s.size) HQ.out.symm)).symm⟩
      case round =>
        clear HW HQ
        obtain ⟨k, hk, rfl, hu⟩ := hrel
        by_cases hlt : k < s.size
        · cases hsp : Nib.spc (Nib.bt s k) with
          | false =>
            have HS : Hid (k = res) := by
              rw [Hid, ← hu.out, Nib.up_stop]; simp [Nib.wgap, hsp]
            rw [Nib.bt_in hlt] at hsp
            clear hu
            go_wp2_with fail
            refine (space_any _ _).mono ?_
            rintro e w' ⟨rfl, rfl⟩
            go_wp2
            go_ret
            exact ⟨ret_int (by rw [← HS.out]), rfl⟩
          | true =>
            have hsp2 := hsp
            rw [Nib.bt_in hlt] at hsp2
            by_cases he : Nib.emp s k = true ∧ k ≠ r
            · obtain ⟨he1, he2⟩ := he
              have HS : Hid (k = res) := by
                rw [Hid, ← hu.out, Nib.up_stop]; simp [Nib.wgap, hsp, he1, he2]
              have hne : ((k : Int) != (r : Int)) = true := by simp; omega
              clear hu hsp
              go_wp2_with fail
              refine (space_any _ _).mono ?_
              rintro e w' ⟨rfl, rfl⟩
              go_wp2_with fail
              refine (empty_any s k _ hs (by omega) (by omega)).mono ?_
              rintro e w' ⟨rfl, rfl⟩
              simp only [Int.toNat_natCast]
              go_wp2
              go_ret
              exact ⟨ret_int (by rw [← HS.out]), rfl⟩
            · have HS : Hid (Nib.up (Nib.wgap s r) s.size (k + 1) = res) := by
                rw [Hid, ← hu.out, Nib.up_step hlt]; simp only [Nib.wgap, hsp, Bool.true_and, Bool.not_eq_true', Bool.and_eq_false_iff, bne_eq_false_iff_eq]
                by_cases e1 : Nib.emp s k = true
                · right; exact Classical.byContradiction fun e2 => he ⟨e1, e2⟩
                · left; simpa using e1
              clear hu hsp
              cases he1 : Nib.emp s k with
              | false =>
                clear he
                go_wp2_with fail
                refine (space_any _ _).mono ?_
                rintro e w' ⟨rfl, rfl⟩
                go_wp2_with fail
                refine (empty_any s k _ hs (by omega) (by omega)).mono ?_
                rintro e w' ⟨rfl, rfl⟩
                simp only [Int.toNat_natCast]
                go_wp2
                go_round
                case rel => exact ⟨k + 1, by omega, by go_num, HS⟩
                case measure => simp [intOf]; omega
              | true =>
                have hkr : k = r := Classical.byContradiction fun e2 => he ⟨he1, e2⟩
                have hne : ((k : Int) != (r : Int)) = false := by simp; omega
                clear he hkr
                go_wp2_with fail
                refine (space_any _ _).mono ?_
                rintro e w' ⟨rfl, rfl⟩
                go_wp2_with fail
                refine (empty_any s k _ hs (by omega) (by omega)).mono ?_
                rintro e w' ⟨rfl, rfl⟩
                simp only [Int.toNat_natCast]
                go_wp2
                go_round
                case rel => exact ⟨k + 1, by omega, by go_num, HS⟩
                case measure => simp [intOf]; omega
        · have HS : Hid (k = res) := by
            rw [Hid, ← hu.out, Nib.up_stop]; simp [hlt]
          clear hu
          go_wp2
          go_ret
          exact ⟨ret_int (by rw [← HS.out]), rfl⟩
    · clear hc
      go_enter Tryz.func119, Tryz.ntmps119
      go_wp2
      go_loop [7] (fun i => ∃ k : Nat, k ≤ s.size ∧ i = .int .i64 k ∧ Hid (Nib.up (Nib.wgap s r) s.size k = res)) (fun i => s.size - (intOf i).toNat)
      case atStart => exact ⟨_, QB, rfl, (HW.out.trans (congrArg (Nib.up (Nib.wgap s r) s.size) HQ.out.symm)).symm⟩
      case round =>
        clear HW HQ
        obtain ⟨k, hk, rfl, hu⟩ := hrel
        by_cases hlt : k < s.size
        · cases hsp : Nib.spc (Nib.bt s k) with
          | false =>
            have HS : Hid (k = res) := by
              rw [Hid, ← hu.out, Nib.up_stop]; simp [Nib.wgap, hsp]
            rw [Nib.bt_in hlt] at hsp
            clear hu
            go_wp2_with fail
            refine (space_any _ _).mono ?_
            rintro e w' ⟨rfl, rfl⟩
            go_wp2
            go_ret
            exact ⟨ret_int (by rw [← HS.out]), rfl⟩
          | true =>
            have hsp2 := hsp
            rw [Nib.bt_in hlt] at hsp2
            by_cases he : Nib.emp s k = true ∧ k ≠ r
            · obtain ⟨he1, he2⟩ := he
              have HS : Hid (k = res) := by
                rw [Hid, ← hu.out, Nib.up_stop]; simp [Nib.wgap, hsp, he1, he2]
              have hne : ((k : Int) != (r : Int)) = true := by simp; omega
              clear hu hsp
              go_wp2_with fail
              refine (space_any _ _).mono ?_
              rintro e w' ⟨rfl, rfl⟩
              go_wp2_with fail
              refine (empty_any s k _ hs (by omega) (by omega)).mono ?_
              rintro e w' ⟨rfl, rfl⟩
              simp only [Int.toNat_natCast]
              go_wp2
              go_ret
              exact ⟨ret_int (by rw [← HS.out]), rfl⟩
            · have HS : Hid (Nib.up (Nib.wgap s r) s.size (k + 1) = res) := by
                rw [Hid, ← hu.out, Nib.up_step hlt]; simp only [Nib.wgap, hsp, Bool.true_and, Bool.not_eq_true', Bool.and_eq_false_iff, bne_eq_false_iff_eq]
                by_cases e1 : Nib.emp s k = true
                · right; exact Classical.byContradiction fun e2 => he ⟨e1, e2⟩
                · left; simpa using e1
              clear hu hsp
              cases he1 : Nib.emp s k with
              | false =>
                clear he
                go_wp2_with fail
                refine (space_any _ _).mono ?_
                rintro e w' ⟨rfl, rfl⟩
                go_wp2_with fail
                refine (empty_any s k _ hs (by omega) (by omega)).mono ?_
                rintro e w' ⟨rfl, rfl⟩
                simp only [Int.toNat_natCast]
                go_wp2
                go_round
                case rel => exact ⟨k + 1, by omega, by go_num, HS⟩
                case measure => simp [intOf]; omega
              | true =>
                have hkr : k = r := Classical.byContradiction fun e2 => he ⟨he1, e2⟩
                have hne : ((k : Int) != (r : Int)) = false := by simp; omega
                clear he hkr
                go_wp2_with fail
                refine (space_any _ _).mono ?_
                rintro e w' ⟨rfl, rfl⟩
                go_wp2_with fail
                refine (empty_any s k _ hs (by omega) (by omega)).mono ?_
                rintro e w' ⟨rfl, rfl⟩
                simp only [Int.toNat_natCast]
                go_wp2
                go_round
                case rel => exact ⟨k + 1, by omega, by go_num, HS⟩
                case measure => simp [intOf]; omega
        · have HS : Hid (k = res) := by
            rw [Hid, ← hu.out, Nib.up_stop]; simp [hlt]
          clear hu
          go_wp2
          go_ret
          exact ⟨ret_int (by rw [← HS.out]), rfl⟩
theorem backStep_any (s : ByteArray) (r : Int) (g : Bool) (w : World) (hs : s.size ≤ 1000) (h0 : 0 ≤ r) (hr : r ≤ s.size) :
    Calls Tryz.prog 114 #[.string s, .int .i64 r, .bool g] w fun e w' => e = .returned (.int .i64 (Nib.bstep s g r.toNat)) ∧ w' = w := by
  obtain ⟨r, rfl⟩ := Int.eq_ofNat_of_zero_le h0
  rw [Int.toNat_natCast]
  by_cases hr0 : r = 0
  · subst hr0
    go_enter Tryz.func114, Tryz.ntmps114
    go_wp2
    go_ret
    exact ⟨rfl, rfl⟩
  · have hne : ((r : Int) == 0) = false := by simp; omega
    have HB : Hid (Nib.bstep s g r = if Nib.cls (Nib.bt s (Nib.bto s r)) g < 2 then Nib.bto s r else Nib.dn (Nib.like s (Nib.bto s r) g) (Nib.bto s r)) := by simp [Hid, Nib.bstep, hr0]
    have HT : Hid (Nib.bto s r = Nib.dn (Nib.bgap s) (r - 1)) := rfl
    generalize Nib.bstep s g r = res at HB ⊢
    generalize Nib.bto s r = b at HB HT
    have hr1 : 1 ≤ r := by omega
    clear hr0
    go_enter Tryz.func114, Tryz.ntmps114
    go_wp2
    go_loop [7] (fun i => ∃ k : Nat, k < r ∧ i = .int .i64 k ∧ Hid (Nib.dn (Nib.bgap s) k = b)) (fun i => (intOf i).toNat)
    case atStart => exact ⟨r - 1, by omega, by go_num, HT.out.symm⟩
    case round =>
      clear HT
      obtain ⟨k, hk, rfl, hu⟩ := hrel
      have hks : k < s.size := by omega
      by_cases hg : ∃ j, k = j + 1 ∧ Nib.bgap s j = true
      · obtain ⟨j, rfl, hj⟩ := hg
        have HS : Hid (Nib.dn (Nib.bgap s) j = b) := by rw [Hid, ← hu.out, Nib.dn_step hj]
        simp only [Nib.bgap, Bool.and_eq_true, Bool.not_eq_true'] at hj
        obtain ⟨h1, h2⟩ := hj
        rw [Nib.bt_in hks] at h1
        clear hu
        go_wp2_with fail
        refine (space_any _ _).mono ?_
        rintro e w' ⟨rfl, rfl⟩
        go_wp2_with fail
        refine (empty_at s _ (j + 1) _ hs (by omega) (by omega)).mono ?_
        rintro e w' ⟨rfl, rfl⟩
        go_wp2
        go_round
        case rel => exact ⟨j, by omega, by go_num, HS⟩
        case measure => simp [intOf] <;> omega
      · have HK : Hid (k = b) := by
          rw [Hid, ← hu.out]
          cases k with
          | zero => rfl
          | succ j =>
            rw [Nib.dn_stop]
            cases h : Nib.bgap s j with
            | false => rfl
            | true => exact absurd ⟨j, rfl, h⟩ hg
        by_cases he : 0 < k ∧ Nib.spc (Nib.bt s k) = true
        · obtain ⟨h1, h2⟩ := he
          have h3 : Nib.emp s k = true := by
            obtain ⟨j, rfl⟩ : ∃ j, k = j + 1 := ⟨k - 1, by omega⟩
            cases h : Nib.emp s (j + 1) with
            | true => rfl
            | false => exact absurd ⟨j, rfl, by simp [Nib.bgap, h2, h]⟩ hg
          have HR : Hid (k = res) := by rw [Hid, HB.out, ← HK.out, if_pos (Nib.cls_spc h2)]
          rw [Nib.bt_in hks] at h2
          clear hg hu HB HK
          go_wp2_with fail
          refine (space_any _ _).mono ?_
          rintro e w' ⟨rfl, rfl⟩
          go_wp2_with fail
          refine (empty_at s _ k _ hs (by omega) (by omega)).mono ?_
          rintro e w' ⟨rfl, rfl⟩
          go_wp2
          go_ret
          exact ⟨ret_int (by rw [← HR.out]), rfl⟩
        · clear hg hu
          have HX : Hid (¬ (0 < k ∧ Nib.spc (Nib.bt s k) = true)) := he
          clear he
          by_cases hcl : Nib.cls (Nib.bt s k) g < 2
          · have HR : Hid (k = res) := by rw [Hid, HB.out, ← HK.out, if_pos hcl]
            rw [Nib.bt_in hks] at hcl
            clear HB HK
            by_cases h0k : 0 < k
            · have h2 : Nib.spc ((s[k]'hks).toNat : Int) = false := by
                rw [← Nib.bt_in hks]; cases h : Nib.spc (Nib.bt s k) with
                | false => rfl
                | true => exact absurd ⟨h0k, h⟩ HX.out
              clear HX
              go_wp2_with fail
              refine (space_any _ _).mono ?_
              rintro e w' ⟨rfl, rfl⟩
              go_wp2_with fail
              refine (class_any _ _ _).mono ?_
              rintro e w' ⟨rfl, rfl⟩
              go_wp2
              go_ret
              exact ⟨ret_int (by rw [← HR.out]), rfl⟩
            · clear HX
              go_wp2_with fail
              refine (class_any _ _ _).mono ?_
              rintro e w' ⟨rfl, rfl⟩
              go_wp2
              go_ret
              exact ⟨ret_int (by rw [← HR.out]), rfl⟩
          · have HR : Hid (res = Nib.dn (Nib.like s k g) k) := by rw [Hid, HB.out, ← HK.out, if_neg hcl]
            have HQ : Hid (Nib.bt s k = ((s[k]'hks).toNat : Int)) := Nib.bt_in hks
            rw [Nib.bt_in hks] at hcl
            clear HB HK
            by_cases h0k : 0 < k
            · have h2 : Nib.spc ((s[k]'hks).toNat : Int) = false := by
                rw [← Nib.bt_in hks]; cases h : Nib.spc (Nib.bt s k) with
                | false => rfl
                | true => exact absurd ⟨h0k, h⟩ HX.out
              clear HX
              go_wp2_with fail
              refine (space_any _ _).mono ?_
              rintro e w' ⟨rfl, rfl⟩
              go_wp2_with fail
              refine (class_any _ _ _).mono ?_
              rintro e w' ⟨rfl, rfl⟩
              go_wp2
              go_loop [7] (fun i => ∃ j : Nat, j ≤ k ∧ i = .int .i64 j ∧ Hid (Nib.dn (Nib.like s k g) j = res)) (fun i => (intOf i).toNat)
              case atStart => exact ⟨k, by omega, rfl, HR.out.symm⟩
              case round =>
                clear HR
                obtain ⟨j, hj, rfl, hu⟩ := hrel
                cases j with
                | zero =>
                  go_wp2
                  go_ret
                  exact ⟨ret_int (by rw [← hu.out]; rfl), rfl⟩
                | succ j =>
                  have hjs : j < s.size := by omega
                  cases hl : Nib.like s k g j with
                  | true =>
                    have HS : Hid (Nib.dn (Nib.like s k g) j = res) := by rw [Hid, ← hu.out, Nib.dn_step hl]
                    have hq : (Nib.cls ((s[j]'hjs).toNat : Int) g == Nib.cls ((s[k]'hks).toNat : Int) g) = true := by
                      rw [← Nib.bt_in hjs, ← HQ.out]; exact hl
                    clear hu hl
                    go_wp2_with fail
                    refine (class_any _ _ _).mono ?_
                    rintro e w' ⟨rfl, rfl⟩
                    go_wp2
                    go_round
                    case rel => exact ⟨j, by omega, by go_num, HS⟩
                    case measure => simp [intOf] <;> omega
                  | false =>
                    have HS : Hid (j + 1 = res) := by rw [Hid, ← hu.out, Nib.dn_stop hl]
                    have hq : (Nib.cls ((s[j]'hjs).toNat : Int) g == Nib.cls ((s[k]'hks).toNat : Int) g) = false := by
                      rw [← Nib.bt_in hjs, ← HQ.out]; exact hl
                    clear hu hl
                    go_wp2_with fail
                    refine (class_any _ _ _).mono ?_
                    rintro e w' ⟨rfl, rfl⟩
                    go_wp2
                    go_ret
                    exact ⟨ret_int (by rw [← HS.out]; rfl), rfl⟩
            · have h0k' : k = 0 := by omega
              subst h0k'
              have HR' : Hid (0 = res) := HR.out.symm
              clear HX HR
              go_wp2_with fail
              refine (class_any _ _ _).mono ?_
              rintro e w' ⟨rfl, rfl⟩
              go_wp2
              go_loop [7] (fun i => i = .int .i64 0) (fun _ => 0)
              case atStart => rfl
              case round =>
                subst hrel
                go_wp2
                go_ret
                exact ⟨ret_int (by rw [← HR'.out]; rfl), rfl⟩
theorem endStep_any (s : ByteArray) (r : Int) (g : Bool) (w : World) (hs : s.size ≤ 1000) (h0 : -1 ≤ r) (hr : r ≤ s.size) :
    Calls Tryz.prog 111 #[.string s, .int .i64 r, .bool g] w fun e w' => e = .returned (.int .i64 (Nib.estep s g (r + 1).toNat)) ∧ w' = w := by
  obtain ⟨q, hq⟩ := Int.eq_ofNat_of_zero_le (show 0 ≤ r + 1 by omega)
  rw [hq, Int.toNat_natCast]
  have HE : Hid (Nib.estep s g q = if Nib.up (Nib.sp s) s.size q < s.size then (Nib.up (Nib.like s (Nib.up (Nib.sp s) s.size q) g) s.size (Nib.up (Nib.sp s) s.size q + 1) : Int) - 1 else -1) := rfl
  generalize Nib.estep s g q = res at HE ⊢
  generalize hu0 : Nib.up (Nib.sp s) s.size q = u at HE
  have HU : Hid (Nib.up (Nib.sp s) s.size q = u) := hu0
  have hq1 : q ≤ s.size + 1 := by omega
  have HQ : Hid (r + 1 = (q : Int)) := hq
  clear hu0 hq
  go_enter Tryz.func111, Tryz.ntmps111
  go_wp2
  go_loop [7] (fun i => ∃ k : Nat, k ≤ s.size + 1 ∧ i = .int .i64 k ∧ Hid (Nib.up (Nib.sp s) s.size k = u)) (fun i => s.size - (intOf i).toNat)
  case atStart => exact ⟨q, hq1, by rw [HQ.out], HU⟩
  case round =>
    clear HU
    obtain ⟨k, hk, rfl, hu⟩ := hrel
    by_cases hlt : k < s.size
    · cases hsp : Nib.sp s k with
      | true =>
        have HS : Hid (Nib.up (Nib.sp s) s.size (k + 1) = u) := by rw [Hid, ← hu.out, Nib.up_step hlt hsp]
        have h2 : Nib.spc ((s[k]'hlt).toNat : Int) = true := by rw [← Nib.bt_in hlt]; exact hsp
        clear hu hsp
        go_wp2_with fail
        refine (space_any _ _).mono ?_
        rintro e w' ⟨rfl, rfl⟩
        go_wp2
        go_round
        case rel => exact ⟨k + 1, by omega, by go_num, HS⟩
        case measure => simp [intOf] <;> omega
      | false =>
        have HK : Hid (k = u) := by rw [Hid, ← hu.out, Nib.up_stop]; simp [hsp]
        have h2 : Nib.spc ((s[k]'hlt).toNat : Int) = false := by rw [← Nib.bt_in hlt]; exact hsp
        have HB : Hid (Nib.bt s k = ((s[k]'hlt).toNat : Int)) := Nib.bt_in hlt
        have HR : Hid (res = (Nib.up (Nib.like s k g) s.size (k + 1) : Int) - 1) := by rw [Hid, HE.out, ← HK.out, if_pos hlt]
        clear hu hsp HK HE
        go_wp2_with fail
        refine (space_any _ _).mono ?_
        rintro e w' ⟨rfl, rfl⟩
        go_wp2_with fail
        refine (class_any _ _ _).mono ?_
        rintro e w' ⟨rfl, rfl⟩
        go_wp2
        go_loop [7] (fun i => ∃ j : Nat, j < s.size ∧ i = .int .i64 j ∧ Hid (res = (Nib.up (Nib.like s k g) s.size (j + 1) : Int) - 1)) (fun i => s.size - (intOf i).toNat)
        case atStart => exact ⟨k, by omega, rfl, HR⟩
        case round =>
          clear HR
          obtain ⟨j, hj, rfl, hu⟩ := hrel
          by_cases hlt' : j + 1 < s.size
          · cases hl : Nib.like s k g (j + 1) with
            | true =>
              have HS : Hid (res = (Nib.up (Nib.like s k g) s.size (j + 1 + 1) : Int) - 1) := by rw [Hid, hu.out, Nib.up_step hlt' hl]
              have hq : (Nib.cls ((s[j + 1]'hlt').toNat : Int) g == Nib.cls ((s[k]'hlt).toNat : Int) g) = true := by
                rw [← Nib.bt_in hlt', ← HB.out]; exact hl
              clear hu hl
              go_wp2_with fail
              refine (class_any _ _ _).mono ?_
              rintro e w' ⟨rfl, rfl⟩
              go_wp2
              go_round
              case rel => exact ⟨j + 1, by omega, by go_num, HS⟩
              case measure => simp [intOf] <;> omega
            | false =>
              have HS : Hid (res = (j : Int)) := by rw [Hid, hu.out, Nib.up_stop (by simp [hl])]; omega
              have hq : (Nib.cls ((s[j + 1]'hlt').toNat : Int) g == Nib.cls ((s[k]'hlt).toNat : Int) g) = false := by
                rw [← Nib.bt_in hlt', ← HB.out]; exact hl
              clear hu hl
              go_wp2_with fail
              refine (class_any _ _ _).mono ?_
              rintro e w' ⟨rfl, rfl⟩
              go_wp2
              go_ret
              exact ⟨ret_int (by rw [HS.out]), rfl⟩
          · have HS : Hid (res = (j : Int)) := by rw [Hid, hu.out, Nib.up_stop (by simp [hlt'])]; omega
            clear hu
            go_wp2
            go_ret
            exact ⟨ret_int (by rw [HS.out]), rfl⟩
    · have HR : Hid (res = -1) := by
        have e : k = u := by rw [← hu.out, Nib.up_stop]; simp [hlt]
        rw [Hid, HE.out, ← e, if_neg hlt]
      clear hu HE
      go_wp2
      go_ret
      exact ⟨ret_int (by rw [HR.out]), rfl⟩
end Go.Proofs.YtlendfhehhacpaaGreat
