/- Joined of the texts WalkF1, WalkF2, WalkF3. -/
import Derived.Test.YtlendfhehhacpaaGreatP12
import Derived.Test.YtlendfhehhacpaaGreatP01
import Derived.Deep.QuietTactic
import Derived.BigQuiet
set_option linter.unusedVariables false
set_option linter.unusedSimpArgs false
set_option maxRecDepth 100000
set_option maxHeartbeats 8000000
namespace Go.Proofs.YtlendfhehhacpaaGreat
open Go.RowKit
theorem goByte_t (s : ByteArray) (p n : Nat) (c : Int) (given v b : Bool) (w : World) (hs : s.size ≤ 1000) (hp : p ≤ s.size) (hn1 : 1 ≤ n) (hn : n ≤ 99) :
    Calls Tryz.prog 115 #[.string s, .int .i64 p, .agg #[.int .u8 116, .int .u8 c, .int .i64 n, .bool given, .bool v, .bool b]] w fun e w' =>
      e = .returned (.agg #[.int .i64 (Nib.byteWay s p 116 c n (Nib.frm 116 b)).1, .int .i64 (Nib.byteWay s p 116 c n (Nib.frm 116 b)).2.1, .bool (Nib.byteWay s p 116 c n (Nib.frm 116 b)).2.2]) ∧ Below w.heap.size w w' := by
  have hbp := Nib.beg_le s p
  have hfp := Nib.fin_le hp
  have hfg := Nib.fin_ge s p
  cases b with
  | true =>
    generalize hx : Nib.byteWay s p 116 c n (Nib.frm 116 true) = x
    have HX : Hid (x = Nib.resU (-1) (Nib.fndU s c (Nib.fin s p) (Nib.fin s p - (p + 2)) n (p + 2))) := by rw [Hid, ← hx]; simp [Nib.byteWay, Nib.frm]
    clear hx
    generalize hfo : Nib.fndU s c (Nib.fin s p) (Nib.fin s p - (p + 2)) n (p + 2) = fo at HX
    have HR : Hid (Nib.fndU s c (Nib.fin s p) (Nib.fin s p - (p + 2)) n (p + 2) = fo) := hfo
    clear hfo
    go_enter Tryz.func115, Tryz.ntmps115
    go_wp2_with fail
    refine (begin_at s _ p _ hs rfl hp).mono ?_
    rintro e w' ⟨rfl, rfl⟩
    go_wp2_with fail
    refine (end_at s _ p _ hs rfl (by omega)).mono ?_
    rintro e w' ⟨rfl, rfl⟩
    go_wp2
    go_loopw [7, 10] (fun nn i wr => ∃ k m d : Nat, p ≤ k ∧ k ≤ 1100 ∧ 1 ≤ m ∧ m ≤ 99 ∧ i = .int .i64 k ∧ nn = .int .i64 m ∧ Hid (Nib.fndU s c (Nib.fin s p) (Nib.fin s p - k) m k = fo) ∧ wr = ((w.alloc (.cells #[.int .u8 116, .int .u8 c, .int .i64 n, .bool given, .bool v, .bool true] 160)).alloc (.cells #[.int .i64 0, .int .i64 0, .bool false] 147)).drewN d) (fun _ i _ => Nib.fin s p - (intOf i).toNat)
    case atStart => exact ⟨p + 2, n, 0, by omega, by omega, hn1, hn, by go_num, rfl, HR, rfl⟩
    case round =>
      clear HR
      obtain ⟨k, m, d, hk1, hk2, hm1, hm2, rfl, rfl, hu, rfl⟩ := hrel
      by_cases hlt : k < Nib.fin s p
      · have hks : k < s.size := by omega
        have hki : (k : Int) < (s.size : Int) := by omega
        have hge : (Nib.beg s p : Int) ≤ (k : Int) := by omega
        have HS : Hid (fo = if Nib.bt s k = c then (if m = 1 then some k else Nib.fndU s c (Nib.fin s p) (Nib.fin s p - (k + 1)) (m - 1) (k + 1)) else Nib.fndU s c (Nib.fin s p) (Nib.fin s p - (k + 1)) m (k + 1)) := by
          rw [Hid, ← hu.out]
          obtain ⟨f, hf⟩ : ∃ f, Nib.fin s p - k = f + 1 := ⟨Nib.fin s p - k - 1, by omega⟩
          rw [hf, show Nib.fin s p - (k + 1) = f by omega, Nib.fndU, if_pos hlt]
        clear hu
        by_cases hc : Nib.bt s k = c
        · rw [Hid, if_pos hc] at HS
          have HC : Hid (c = ((s[k]'hks).toNat : Int)) := by rw [Hid, ← hc, Nib.bt_in hks]
          have hc' : (((s[k]'hks).toNat : Int) == c) = true := by rw [← Nib.bt_in hks]; simp [hc]
          by_cases hm : m = 1
          · have HF : Hid (fo = some k) := by rw [Hid, HS, if_pos hm]
            have hm' : (m : Int) - 1 = 0 := by omega
            clear HS hc
            go_wp2_with fail
            go_quiet (fail)
            go_wp2
            refine bodyPost_ret (v := .agg #[.int .i64 ((k : Int) - 1), .int .i64 1, .bool false]) (by simp [results, Tryz.results115, go_sem]) rfl ⟨by rw [HX.out, HF.out]; simp [Nib.resU, Nib.resD]; try omega, ?_⟩
            repeat (with_reducible first | exact Below.refl _ _ | refine b_s ?_ _ | refine b_a ?_ _ | refine Below.drew ?_ | refine below_drewN ?_ _)
            all_goals exact below_drewN (((Below.refl _ _).alloc (Nat.le_refl _) _).alloc (by simp) _) _
          · have HF : Hid (Nib.fndU s c (Nib.fin s p) (Nib.fin s p - (k + 1)) (m - 1) (k + 1) = fo) := by rw [Hid, HS, if_neg hm]
            have hm' : ((m : Int) - 1 == 0) = false := by simp; omega
            clear HS hc
            go_wp2_with fail
            go_quiet (fail)
            go_wp2
            go_roundw
            case rel => exact ⟨k + 1, m - 1, _, by omega, by omega, by omega, by omega, by go_num, by go_num, HF, rfl⟩
            case measure => simp [intOf] <;> omega
        · rw [Hid, if_neg hc] at HS
          have HF : Hid (Nib.fndU s c (Nib.fin s p) (Nib.fin s p - (k + 1)) m (k + 1) = fo) := HS.symm
          have hc' : (((s[k]'hks).toNat : Int) == c) = false := by rw [← Nib.bt_in hks]; simp [hc]
          have hm' : ((m : Int) == 0) = false := by simp; omega
          clear HS hc
          go_wp2_with fail
          go_quiet (fail)
          go_wp2
          go_roundw
          case rel => exact ⟨k + 1, m, _, by omega, by omega, by omega, by omega, by go_num, rfl, HF, rfl⟩
          case measure => simp [intOf] <;> omega
      · have HF : Hid (fo = none) := by
          rw [Hid, ← hu.out, show Nib.fin s p - k = 0 by omega, Nib.fndU]
        have hge : (Nib.beg s p : Int) ≤ (k : Int) := by omega
        have hlt' : ¬ (k : Int) < (Nib.fin s p : Int) := by omega
        clear hu
        go_wp2_with fail
        refine (fails_any _).mono ?_
        rintro e w1 ⟨rfl, h1⟩
        obtain ⟨hc1, hf1⟩ := bcell h1
        have hz1 := h1.size
        try simp at hz1
        go_wp2
        refine bodyPost_ret (v := .agg #[.int .i64 0, .int .i64 0, .bool true]) (by simp [results, Tryz.results115, go_sem, hc1, hz1]) rfl ⟨by rw [HX.out, HF.out]; simp [Nib.resU, Nib.resD]; try omega, ?_⟩
        repeat (with_reducible first | exact Below.refl _ _ | refine b_s ?_ _ | refine b_a ?_ _ | refine Below.drew ?_ | refine below_drewN ?_ _ | refine b_t ?_ h1)
        all_goals exact below_drewN (((Below.refl _ _).alloc (Nat.le_refl _) _).alloc (by simp) _) _
  | false =>
    generalize hx : Nib.byteWay s p 116 c n (Nib.frm 116 false) = x
    have HX : Hid (x = Nib.resU (-1) (Nib.fndU s c (Nib.fin s p) (Nib.fin s p - (p + 1)) n (p + 1))) := by rw [Hid, ← hx]; simp [Nib.byteWay, Nib.frm]
    clear hx
    generalize hfo : Nib.fndU s c (Nib.fin s p) (Nib.fin s p - (p + 1)) n (p + 1) = fo at HX
    have HR : Hid (Nib.fndU s c (Nib.fin s p) (Nib.fin s p - (p + 1)) n (p + 1) = fo) := hfo
    clear hfo
    go_enter Tryz.func115, Tryz.ntmps115
    go_wp2_with fail
    refine (begin_at s _ p _ hs rfl hp).mono ?_
    rintro e w' ⟨rfl, rfl⟩
    go_wp2_with fail
    refine (end_at s _ p _ hs rfl (by omega)).mono ?_
    rintro e w' ⟨rfl, rfl⟩
    go_wp2
    go_loopw [7, 10] (fun nn i wr => ∃ k m d : Nat, p ≤ k ∧ k ≤ 1100 ∧ 1 ≤ m ∧ m ≤ 99 ∧ i = .int .i64 k ∧ nn = .int .i64 m ∧ Hid (Nib.fndU s c (Nib.fin s p) (Nib.fin s p - k) m k = fo) ∧ wr = ((w.alloc (.cells #[.int .u8 116, .int .u8 c, .int .i64 n, .bool given, .bool v, .bool false] 160)).alloc (.cells #[.int .i64 0, .int .i64 0, .bool false] 147)).drewN d) (fun _ i _ => Nib.fin s p - (intOf i).toNat)
    case atStart => exact ⟨p + 1, n, 0, by omega, by omega, hn1, hn, by go_num, rfl, HR, rfl⟩
    case round =>
      clear HR
      obtain ⟨k, m, d, hk1, hk2, hm1, hm2, rfl, rfl, hu, rfl⟩ := hrel
      by_cases hlt : k < Nib.fin s p
      · have hks : k < s.size := by omega
        have hki : (k : Int) < (s.size : Int) := by omega
        have hge : (Nib.beg s p : Int) ≤ (k : Int) := by omega
        have HS : Hid (fo = if Nib.bt s k = c then (if m = 1 then some k else Nib.fndU s c (Nib.fin s p) (Nib.fin s p - (k + 1)) (m - 1) (k + 1)) else Nib.fndU s c (Nib.fin s p) (Nib.fin s p - (k + 1)) m (k + 1)) := by
          rw [Hid, ← hu.out]
          obtain ⟨f, hf⟩ : ∃ f, Nib.fin s p - k = f + 1 := ⟨Nib.fin s p - k - 1, by omega⟩
          rw [hf, show Nib.fin s p - (k + 1) = f by omega, Nib.fndU, if_pos hlt]
        clear hu
        by_cases hc : Nib.bt s k = c
        · rw [Hid, if_pos hc] at HS
          have HC : Hid (c = ((s[k]'hks).toNat : Int)) := by rw [Hid, ← hc, Nib.bt_in hks]
          have hc' : (((s[k]'hks).toNat : Int) == c) = true := by rw [← Nib.bt_in hks]; simp [hc]
          by_cases hm : m = 1
          · have HF : Hid (fo = some k) := by rw [Hid, HS, if_pos hm]
            have hm' : (m : Int) - 1 = 0 := by omega
            clear HS hc
            go_wp2_with fail
            go_quiet (fail)
            go_wp2
            refine bodyPost_ret (v := .agg #[.int .i64 ((k : Int) - 1), .int .i64 1, .bool false]) (by simp [results, Tryz.results115, go_sem]) rfl ⟨by rw [HX.out, HF.out]; simp [Nib.resU, Nib.resD]; try omega, ?_⟩
            repeat (with_reducible first | exact Below.refl _ _ | refine b_s ?_ _ | refine b_a ?_ _ | refine Below.drew ?_ | refine below_drewN ?_ _)
            all_goals exact below_drewN (((Below.refl _ _).alloc (Nat.le_refl _) _).alloc (by simp) _) _
          · have HF : Hid (Nib.fndU s c (Nib.fin s p) (Nib.fin s p - (k + 1)) (m - 1) (k + 1) = fo) := by rw [Hid, HS, if_neg hm]
            have hm' : ((m : Int) - 1 == 0) = false := by simp; omega
            clear HS hc
            go_wp2_with fail
            go_quiet (fail)
            go_wp2
            go_roundw
            case rel => exact ⟨k + 1, m - 1, _, by omega, by omega, by omega, by omega, by go_num, by go_num, HF, rfl⟩
            case measure => simp [intOf] <;> omega
        · rw [Hid, if_neg hc] at HS
          have HF : Hid (Nib.fndU s c (Nib.fin s p) (Nib.fin s p - (k + 1)) m (k + 1) = fo) := HS.symm
          have hc' : (((s[k]'hks).toNat : Int) == c) = false := by rw [← Nib.bt_in hks]; simp [hc]
          have hm' : ((m : Int) == 0) = false := by simp; omega
          clear HS hc
          go_wp2_with fail
          go_quiet (fail)
          go_wp2
          go_roundw
          case rel => exact ⟨k + 1, m, _, by omega, by omega, by omega, by omega, by go_num, rfl, HF, rfl⟩
          case measure => simp [intOf] <;> omega
      · have HF : Hid (fo = none) := by
          rw [Hid, ← hu.out, show Nib.fin s p - k = 0 by omega, Nib.fndU]
        have hge : (Nib.beg s p : Int) ≤ (k : Int) := by omega
        have hlt' : ¬ (k : Int) < (Nib.fin s p : Int) := by omega
        clear hu
        go_wp2_with fail
        refine (fails_any _).mono ?_
        rintro e w1 ⟨rfl, h1⟩
        obtain ⟨hc1, hf1⟩ := bcell h1
        have hz1 := h1.size
        try simp at hz1
        go_wp2
        refine bodyPost_ret (v := .agg #[.int .i64 0, .int .i64 0, .bool true]) (by simp [results, Tryz.results115, go_sem, hc1, hz1]) rfl ⟨by rw [HX.out, HF.out]; simp [Nib.resU, Nib.resD]; try omega, ?_⟩
        repeat (with_reducible first | exact Below.refl _ _ | refine b_s ?_ _ | refine b_a ?_ _ | refine Below.drew ?_ | refine below_drewN ?_ _ | refine b_t ?_ h1)
        all_goals exact below_drewN (((Below.refl _ _).alloc (Nat.le_refl _) _).alloc (by simp) _) _
theorem goByte_F (s : ByteArray) (p n : Nat) (c : Int) (given v b : Bool) (w : World) (hs : s.size ≤ 1000) (hp : p ≤ s.size) (hn1 : 1 ≤ n) (hn : n ≤ 99) :
    Calls Tryz.prog 115 #[.string s, .int .i64 p, .agg #[.int .u8 70, .int .u8 c, .int .i64 n, .bool given, .bool v, .bool b]] w fun e w' =>
      e = .returned (.agg #[.int .i64 (Nib.byteWay s p 70 c n (Nib.frm 70 b)).1, .int .i64 (Nib.byteWay s p 70 c n (Nib.frm 70 b)).2.1, .bool (Nib.byteWay s p 70 c n (Nib.frm 70 b)).2.2]) ∧ Below w.heap.size w w' := by
  have hbp := Nib.beg_le s p
  have hfp := Nib.fin_le hp
  have hfg := Nib.fin_ge s p
  cases b with
  | true =>
    generalize hx : Nib.byteWay s p 70 c n (Nib.frm 70 true) = x
    have HX : Hid (x = Nib.resD 0 (Nib.fndD s c (Nib.beg s p) n (p + 1 - 1))) := by rw [Hid, ← hx]; simp [Nib.byteWay, Nib.frm]
    clear hx
    generalize hfo : Nib.fndD s c (Nib.beg s p) n (p + 1 - 1) = fo at HX
    have HR : Hid (Nib.fndD s c (Nib.beg s p) n (p + 1 - 1) = fo) := hfo
    clear hfo
    go_enter Tryz.func115, Tryz.ntmps115
    go_wp2_with fail
    refine (begin_at s _ p _ hs rfl hp).mono ?_
    rintro e w' ⟨rfl, rfl⟩
    go_wp2_with fail
    refine (end_at s _ p _ hs rfl (by omega)).mono ?_
    rintro e w' ⟨rfl, rfl⟩
    go_wp2
    go_loopw [7, 10] (fun nn i wr => ∃ (k : Int) (m d : Nat), -2 ≤ k ∧ k < p ∧ 1 ≤ m ∧ m ≤ 99 ∧ i = .int .i64 k ∧ nn = .int .i64 m ∧ Hid (Nib.fndD s c (Nib.beg s p) m (k + 1).toNat = fo) ∧ wr = ((w.alloc (.cells #[.int .u8 70, .int .u8 c, .int .i64 n, .bool given, .bool v, .bool true] 160)).alloc (.cells #[.int .i64 0, .int .i64 0, .bool false] 147)).drewN d) (fun _ i _ => (intOf i + 1).toNat)
    case atStart => exact ⟨(p : Int) - 1, n, 0, by omega, by omega, hn1, hn, by go_num, rfl, by rw [Hid, ← HR.out]; congr 1; omega, rfl⟩
    case round =>
      clear HR
      obtain ⟨k, m, d, hk1, hk2, hm1, hm2, rfl, rfl, hu, rfl⟩ := hrel
      by_cases hlt : (Nib.beg s p : Int) ≤ k
      · obtain ⟨k, rfl⟩ := Int.eq_ofNat_of_zero_le (show 0 ≤ k by omega)
        have hks : k < s.size := by omega
        have hki : (k : Int) < (s.size : Int) := by omega
        have hge : (k : Int) < (Nib.fin s p : Int) := by omega
        have HS : Hid (fo = if Nib.bt s k = c then (if m = 1 then some k else Nib.fndD s c (Nib.beg s p) (m - 1) k) else Nib.fndD s c (Nib.beg s p) m k) := by
          rw [Hid, ← hu.out, show ((k : Int) + 1).toNat = k + 1 by omega, Nib.fndD, if_pos (by omega)]
        clear hu
        by_cases hc : Nib.bt s k = c
        · rw [Hid, if_pos hc] at HS
          have hc' : (((s[k]'hks).toNat : Int) == c) = true := by rw [← Nib.bt_in hks]; simp [hc]
          by_cases hm : m = 1
          · have HF : Hid (fo = some k) := by rw [Hid, HS, if_pos hm]
            have hm' : (m : Int) - 1 = 0 := by omega
            clear HS hc
            go_wp2_with fail
            go_quiet (fail)
            go_wp2
            refine bodyPost_ret (v := .agg #[.int .i64 ((k : Int)), .int .i64 0, .bool false]) (by simp [results, Tryz.results115, go_sem]) rfl ⟨by rw [HX.out, HF.out]; simp [Nib.resU, Nib.resD]; try omega, ?_⟩
            repeat (with_reducible first | exact Below.refl _ _ | refine b_s ?_ _ | refine b_a ?_ _ | refine Below.drew ?_ | refine below_drewN ?_ _)
            all_goals exact below_drewN (((Below.refl _ _).alloc (Nat.le_refl _) _).alloc (by simp) _) _
          · have HF : Hid (Nib.fndD s c (Nib.beg s p) (m - 1) k = fo) := by rw [Hid, HS, if_neg hm]
            have hm' : ((m : Int) - 1 == 0) = false := by simp; omega
            clear HS hc
            go_wp2_with fail
            go_quiet (fail)
            go_wp2
            go_roundw
            case rel => exact ⟨(k : Int) - 1, m - 1, _, by omega, by omega, by omega, by omega, by go_num, by go_num, by rw [Hid, ← HF.out]; congr 1; omega, rfl⟩
            case measure => simp [intOf] <;> omega
        · rw [Hid, if_neg hc] at HS
          have HF : Hid (Nib.fndD s c (Nib.beg s p) m k = fo) := HS.symm
          have hc' : (((s[k]'hks).toNat : Int) == c) = false := by rw [← Nib.bt_in hks]; simp [hc]
          have hm' : ((m : Int) == 0) = false := by simp; omega
          clear HS hc
          go_wp2_with fail
          go_quiet (fail)
          go_wp2
          go_roundw
          case rel => exact ⟨(k : Int) - 1, m, _, by omega, by omega, by omega, by omega, by go_num, rfl, by rw [Hid, ← HF.out]; congr 1; omega, rfl⟩
          case measure => simp [intOf] <;> omega
      · have HF : Hid (fo = none) := by
          rw [Hid, ← hu.out]
          cases h : (k + 1).toNat with
          | zero => rfl
          | succ j => rw [Nib.fndD, if_neg (by omega)]
        clear hu
        go_wp2_with fail
        refine (fails_any _).mono ?_
        rintro e w1 ⟨rfl, h1⟩
        obtain ⟨hc1, hf1⟩ := bcell h1
        have hz1 := h1.size
        try simp at hz1
        go_wp2
        refine bodyPost_ret (v := .agg #[.int .i64 0, .int .i64 0, .bool true]) (by simp [results, Tryz.results115, go_sem, hc1, hz1]) rfl ⟨by rw [HX.out, HF.out]; simp [Nib.resU, Nib.resD]; try omega, ?_⟩
        repeat (with_reducible first | exact Below.refl _ _ | refine b_s ?_ _ | refine b_a ?_ _ | refine Below.drew ?_ | refine below_drewN ?_ _ | refine b_t ?_ h1)
        all_goals exact below_drewN (((Below.refl _ _).alloc (Nat.le_refl _) _).alloc (by simp) _) _
  | false =>
    generalize hx : Nib.byteWay s p 70 c n (Nib.frm 70 false) = x
    have HX : Hid (x = Nib.resD 0 (Nib.fndD s c (Nib.beg s p) n (p + 1 - 1))) := by rw [Hid, ← hx]; simp [Nib.byteWay, Nib.frm]
    clear hx
    generalize hfo : Nib.fndD s c (Nib.beg s p) n (p + 1 - 1) = fo at HX
    have HR : Hid (Nib.fndD s c (Nib.beg s p) n (p + 1 - 1) = fo) := hfo
    clear hfo
    go_enter Tryz.func115, Tryz.ntmps115
    go_wp2_with fail
    refine (begin_at s _ p _ hs rfl hp).mono ?_
    rintro e w' ⟨rfl, rfl⟩
    go_wp2_with fail
    refine (end_at s _ p _ hs rfl (by omega)).mono ?_
    rintro e w' ⟨rfl, rfl⟩
    go_wp2
    go_loopw [7, 10] (fun nn i wr => ∃ (k : Int) (m d : Nat), -2 ≤ k ∧ k < p ∧ 1 ≤ m ∧ m ≤ 99 ∧ i = .int .i64 k ∧ nn = .int .i64 m ∧ Hid (Nib.fndD s c (Nib.beg s p) m (k + 1).toNat = fo) ∧ wr = ((w.alloc (.cells #[.int .u8 70, .int .u8 c, .int .i64 n, .bool given, .bool v, .bool false] 160)).alloc (.cells #[.int .i64 0, .int .i64 0, .bool false] 147)).drewN d) (fun _ i _ => (intOf i + 1).toNat)
    case atStart => exact ⟨(p : Int) - 1, n, 0, by omega, by omega, hn1, hn, by go_num, rfl, by rw [Hid, ← HR.out]; congr 1; omega, rfl⟩
    case round =>
      clear HR
      obtain ⟨k, m, d, hk1, hk2, hm1, hm2, rfl, rfl, hu, rfl⟩ := hrel
      by_cases hlt : (Nib.beg s p : Int) ≤ k
      · obtain ⟨k, rfl⟩ := Int.eq_ofNat_of_zero_le (show 0 ≤ k by omega)
        have hks : k < s.size := by omega
        have hki : (k : Int) < (s.size : Int) := by omega
        have hge : (k : Int) < (Nib.fin s p : Int) := by omega
        have HS : Hid (fo = if Nib.bt s k = c then (if m = 1 then some k else Nib.fndD s c (Nib.beg s p) (m - 1) k) else Nib.fndD s c (Nib.beg s p) m k) := by
          rw [Hid, ← hu.out, show ((k : Int) + 1).toNat = k + 1 by omega, Nib.fndD, if_pos (by omega)]
        clear hu
        by_cases hc : Nib.bt s k = c
        · rw [Hid, if_pos hc] at HS
          have hc' : (((s[k]'hks).toNat : Int) == c) = true := by rw [← Nib.bt_in hks]; simp [hc]
          by_cases hm : m = 1
          · have HF : Hid (fo = some k) := by rw [Hid, HS, if_pos hm]
            have hm' : (m : Int) - 1 = 0 := by omega
            clear HS hc
            go_wp2_with fail
            go_quiet (fail)
            go_wp2
            refine bodyPost_ret (v := .agg #[.int .i64 ((k : Int)), .int .i64 0, .bool false]) (by simp [results, Tryz.results115, go_sem]) rfl ⟨by rw [HX.out, HF.out]; simp [Nib.resU, Nib.resD]; try omega, ?_⟩
            repeat (with_reducible first | exact Below.refl _ _ | refine b_s ?_ _ | refine b_a ?_ _ | refine Below.drew ?_ | refine below_drewN ?_ _)
            all_goals exact below_drewN (((Below.refl _ _).alloc (Nat.le_refl _) _).alloc (by simp) _) _
          · have HF : Hid (Nib.fndD s c (Nib.beg s p) (m - 1) k = fo) := by rw [Hid, HS, if_neg hm]
            have hm' : ((m : Int) - 1 == 0) = false := by simp; omega
            clear HS hc
            go_wp2_with fail
            go_quiet (fail)
            go_wp2
            go_roundw
            case rel => exact ⟨(k : Int) - 1, m - 1, _, by omega, by omega, by omega, by omega, by go_num, by go_num, by rw [Hid, ← HF.out]; congr 1; omega, rfl⟩
            case measure => simp [intOf] <;> omega
        · rw [Hid, if_neg hc] at HS
          have HF : Hid (Nib.fndD s c (Nib.beg s p) m k = fo) := HS.symm
          have hc' : (((s[k]'hks).toNat : Int) == c) = false := by rw [← Nib.bt_in hks]; simp [hc]
          have hm' : ((m : Int) == 0) = false := by simp; omega
          clear HS hc
          go_wp2_with fail
          go_quiet (fail)
          go_wp2
          go_roundw
          case rel => exact ⟨(k : Int) - 1, m, _, by omega, by omega, by omega, by omega, by go_num, rfl, by rw [Hid, ← HF.out]; congr 1; omega, rfl⟩
          case measure => simp [intOf] <;> omega
      · have HF : Hid (fo = none) := by
          rw [Hid, ← hu.out]
          cases h : (k + 1).toNat with
          | zero => rfl
          | succ j => rw [Nib.fndD, if_neg (by omega)]
        clear hu
        go_wp2_with fail
        refine (fails_any _).mono ?_
        rintro e w1 ⟨rfl, h1⟩
        obtain ⟨hc1, hf1⟩ := bcell h1
        have hz1 := h1.size
        try simp at hz1
        go_wp2
        refine bodyPost_ret (v := .agg #[.int .i64 0, .int .i64 0, .bool true]) (by simp [results, Tryz.results115, go_sem, hc1, hz1]) rfl ⟨by rw [HX.out, HF.out]; simp [Nib.resU, Nib.resD]; try omega, ?_⟩
        repeat (with_reducible first | exact Below.refl _ _ | refine b_s ?_ _ | refine b_a ?_ _ | refine Below.drew ?_ | refine below_drewN ?_ _ | refine b_t ?_ h1)
        all_goals exact below_drewN (((Below.refl _ _).alloc (Nat.le_refl _) _).alloc (by simp) _) _
theorem goByte_T (s : ByteArray) (p n : Nat) (c : Int) (given v b : Bool) (w : World) (hs : s.size ≤ 1000) (hp : p ≤ s.size) (hn1 : 1 ≤ n) (hn : n ≤ 99) :
    Calls Tryz.prog 115 #[.string s, .int .i64 p, .agg #[.int .u8 84, .int .u8 c, .int .i64 n, .bool given, .bool v, .bool b]] w fun e w' =>
      e = .returned (.agg #[.int .i64 (Nib.byteWay s p 84 c n (Nib.frm 84 b)).1, .int .i64 (Nib.byteWay s p 84 c n (Nib.frm 84 b)).2.1, .bool (Nib.byteWay s p 84 c n (Nib.frm 84 b)).2.2]) ∧ Below w.heap.size w w' := by
  have hbp := Nib.beg_le s p
  have hfp := Nib.fin_le hp
  have hfg := Nib.fin_ge s p
  cases b with
  | true =>
    generalize hx : Nib.byteWay s p 84 c n (Nib.frm 84 true) = x
    have HX : Hid (x = Nib.resD 1 (Nib.fndD s c (Nib.beg s p) n (p + 1 - 2))) := by rw [Hid, ← hx]; simp [Nib.byteWay, Nib.frm]
    clear hx
    generalize hfo : Nib.fndD s c (Nib.beg s p) n (p + 1 - 2) = fo at HX
    have HR : Hid (Nib.fndD s c (Nib.beg s p) n (p + 1 - 2) = fo) := hfo
    clear hfo
    go_enter Tryz.func115, Tryz.ntmps115
    go_wp2_with fail
    refine (begin_at s _ p _ hs rfl hp).mono ?_
    rintro e w' ⟨rfl, rfl⟩
    go_wp2_with fail
    refine (end_at s _ p _ hs rfl (by omega)).mono ?_
    rintro e w' ⟨rfl, rfl⟩
    go_wp2
    go_loopw [7, 10] (fun nn i wr => ∃ (k : Int) (m d : Nat), -2 ≤ k ∧ k < p ∧ 1 ≤ m ∧ m ≤ 99 ∧ i = .int .i64 k ∧ nn = .int .i64 m ∧ Hid (Nib.fndD s c (Nib.beg s p) m (k + 1).toNat = fo) ∧ wr = ((w.alloc (.cells #[.int .u8 84, .int .u8 c, .int .i64 n, .bool given, .bool v, .bool true] 160)).alloc (.cells #[.int .i64 0, .int .i64 0, .bool false] 147)).drewN d) (fun _ i _ => (intOf i + 1).toNat)
    case atStart => exact ⟨(p : Int) - 2, n, 0, by omega, by omega, hn1, hn, by go_num, rfl, by rw [Hid, ← HR.out]; congr 1; omega, rfl⟩
    case round =>
      clear HR
      obtain ⟨k, m, d, hk1, hk2, hm1, hm2, rfl, rfl, hu, rfl⟩ := hrel
      by_cases hlt : (Nib.beg s p : Int) ≤ k
      · obtain ⟨k, rfl⟩ := Int.eq_ofNat_of_zero_le (show 0 ≤ k by omega)
        have hks : k < s.size := by omega
        have hki : (k : Int) < (s.size : Int) := by omega
        have hge : (k : Int) < (Nib.fin s p : Int) := by omega
        have HS : Hid (fo = if Nib.bt s k = c then (if m = 1 then some k else Nib.fndD s c (Nib.beg s p) (m - 1) k) else Nib.fndD s c (Nib.beg s p) m k) := by
          rw [Hid, ← hu.out, show ((k : Int) + 1).toNat = k + 1 by omega, Nib.fndD, if_pos (by omega)]
        clear hu
        by_cases hc : Nib.bt s k = c
        · rw [Hid, if_pos hc] at HS
          have hc' : (((s[k]'hks).toNat : Int) == c) = true := by rw [← Nib.bt_in hks]; simp [hc]
          by_cases hm : m = 1
          · have HF : Hid (fo = some k) := by rw [Hid, HS, if_pos hm]
            have hm' : (m : Int) - 1 = 0 := by omega
            clear HS hc
            go_wp2_with fail
            go_quiet (fail)
            go_wp2
            refine bodyPost_ret (v := .agg #[.int .i64 ((k : Int) + 1), .int .i64 0, .bool false]) (by simp [results, Tryz.results115, go_sem]) rfl ⟨by rw [HX.out, HF.out]; simp [Nib.resU, Nib.resD]; try omega, ?_⟩
            repeat (with_reducible first | exact Below.refl _ _ | refine b_s ?_ _ | refine b_a ?_ _ | refine Below.drew ?_ | refine below_drewN ?_ _)
            all_goals exact below_drewN (((Below.refl _ _).alloc (Nat.le_refl _) _).alloc (by simp) _) _
          · have HF : Hid (Nib.fndD s c (Nib.beg s p) (m - 1) k = fo) := by rw [Hid, HS, if_neg hm]
            have hm' : ((m : Int) - 1 == 0) = false := by simp; omega
            clear HS hc
            go_wp2_with fail
            go_quiet (fail)
            go_wp2
            go_roundw
            case rel => exact ⟨(k : Int) - 1, m - 1, _, by omega, by omega, by omega, by omega, by go_num, by go_num, by rw [Hid, ← HF.out]; congr 1; omega, rfl⟩
            case measure => simp [intOf] <;> omega
        · rw [Hid, if_neg hc] at HS
          have HF : Hid (Nib.fndD s c (Nib.beg s p) m k = fo) := HS.symm
          have hc' : (((s[k]'hks).toNat : Int) == c) = false := by rw [← Nib.bt_in hks]; simp [hc]
          have hm' : ((m : Int) == 0) = false := by simp; omega
          clear HS hc
          go_wp2_with fail
          go_quiet (fail)
          go_wp2
          go_roundw
          case rel => exact ⟨(k : Int) - 1, m, _, by omega, by omega, by omega, by omega, by go_num, rfl, by rw [Hid, ← HF.out]; congr 1; omega, rfl⟩
          case measure => simp [intOf] <;> omega
      · have HF : Hid (fo = none) := by
          rw [Hid, ← hu.out]
          cases h : (k + 1).toNat with
          | zero => rfl
          | succ j => rw [Nib.fndD, if_neg (by omega)]
        clear hu
        go_wp2_with fail
        refine (fails_any _).mono ?_
        rintro e w1 ⟨rfl, h1⟩
        obtain ⟨hc1, hf1⟩ := bcell h1
        have hz1 := h1.size
        try simp at hz1
        go_wp2
        refine bodyPost_ret (v := .agg #[.int .i64 0, .int .i64 0, .bool true]) (by simp [results, Tryz.results115, go_sem, hc1, hz1]) rfl ⟨by rw [HX.out, HF.out]; simp [Nib.resU, Nib.resD]; try omega, ?_⟩
        repeat (with_reducible first | exact Below.refl _ _ | refine b_s ?_ _ | refine b_a ?_ _ | refine Below.drew ?_ | refine below_drewN ?_ _ | refine b_t ?_ h1)
        all_goals exact below_drewN (((Below.refl _ _).alloc (Nat.le_refl _) _).alloc (by simp) _) _
  | false =>
    generalize hx : Nib.byteWay s p 84 c n (Nib.frm 84 false) = x
    have HX : Hid (x = Nib.resD 1 (Nib.fndD s c (Nib.beg s p) n (p + 1 - 1))) := by rw [Hid, ← hx]; simp [Nib.byteWay, Nib.frm]
    clear hx
    generalize hfo : Nib.fndD s c (Nib.beg s p) n (p + 1 - 1) = fo at HX
    have HR : Hid (Nib.fndD s c (Nib.beg s p) n (p + 1 - 1) = fo) := hfo
    clear hfo
    go_enter Tryz.func115, Tryz.ntmps115
    go_wp2_with fail
    refine (begin_at s _ p _ hs rfl hp).mono ?_
    rintro e w' ⟨rfl, rfl⟩
    go_wp2_with fail
    refine (end_at s _ p _ hs rfl (by omega)).mono ?_
    rintro e w' ⟨rfl, rfl⟩
    go_wp2
    go_loopw [7, 10] (fun nn i wr => ∃ (k : Int) (m d : Nat), -2 ≤ k ∧ k < p ∧ 1 ≤ m ∧ m ≤ 99 ∧ i = .int .i64 k ∧ nn = .int .i64 m ∧ Hid (Nib.fndD s c (Nib.beg s p) m (k + 1).toNat = fo) ∧ wr = ((w.alloc (.cells #[.int .u8 84, .int .u8 c, .int .i64 n, .bool given, .bool v, .bool false] 160)).alloc (.cells #[.int .i64 0, .int .i64 0, .bool false] 147)).drewN d) (fun _ i _ => (intOf i + 1).toNat)
    case atStart => exact ⟨(p : Int) - 1, n, 0, by omega, by omega, hn1, hn, by go_num, rfl, by rw [Hid, ← HR.out]; congr 1; omega, rfl⟩
    case round =>
      clear HR
      obtain ⟨k, m, d, hk1, hk2, hm1, hm2, rfl, rfl, hu, rfl⟩ := hrel
      by_cases hlt : (Nib.beg s p : Int) ≤ k
      · obtain ⟨k, rfl⟩ := Int.eq_ofNat_of_zero_le (show 0 ≤ k by omega)
        have hks : k < s.size := by omega
        have hki : (k : Int) < (s.size : Int) := by omega
        have hge : (k : Int) < (Nib.fin s p : Int) := by omega
        have HS : Hid (fo = if Nib.bt s k = c then (if m = 1 then some k else Nib.fndD s c (Nib.beg s p) (m - 1) k) else Nib.fndD s c (Nib.beg s p) m k) := by
          rw [Hid, ← hu.out, show ((k : Int) + 1).toNat = k + 1 by omega, Nib.fndD, if_pos (by omega)]
        clear hu
        by_cases hc : Nib.bt s k = c
        · rw [Hid, if_pos hc] at HS
          have hc' : (((s[k]'hks).toNat : Int) == c) = true := by rw [← Nib.bt_in hks]; simp [hc]
          by_cases hm : m = 1
          · have HF : Hid (fo = some k) := by rw [Hid, HS, if_pos hm]
            have hm' : (m : Int) - 1 = 0 := by omega
            clear HS hc
            go_wp2_with fail
            go_quiet (fail)
            go_wp2
            refine bodyPost_ret (v := .agg #[.int .i64 ((k : Int) + 1), .int .i64 0, .bool false]) (by simp [results, Tryz.results115, go_sem]) rfl ⟨by rw [HX.out, HF.out]; simp [Nib.resU, Nib.resD]; try omega, ?_⟩
            repeat (with_reducible first | exact Below.refl _ _ | refine b_s ?_ _ | refine b_a ?_ _ | refine Below.drew ?_ | refine below_drewN ?_ _)
            all_goals exact below_drewN (((Below.refl _ _).alloc (Nat.le_refl _) _).alloc (by simp) _) _
          · have HF : Hid (Nib.fndD s c (Nib.beg s p) (m - 1) k = fo) := by rw [Hid, HS, if_neg hm]
            have hm' : ((m : Int) - 1 == 0) = false := by simp; omega
            clear HS hc
            go_wp2_with fail
            go_quiet (fail)
            go_wp2
            go_roundw
            case rel => exact ⟨(k : Int) - 1, m - 1, _, by omega, by omega, by omega, by omega, by go_num, by go_num, by rw [Hid, ← HF.out]; congr 1; omega, rfl⟩
            case measure => simp [intOf] <;> omega
        · rw [Hid, if_neg hc] at HS
          have HF : Hid (Nib.fndD s c (Nib.beg s p) m k = fo) := HS.symm
          have hc' : (((s[k]'hks).toNat : Int) == c) = false := by rw [← Nib.bt_in hks]; simp [hc]
          have hm' : ((m : Int) == 0) = false := by simp; omega
          clear HS hc
          go_wp2_with fail
          go_quiet (fail)
          go_wp2
          go_roundw
          case rel => exact ⟨(k : Int) - 1, m, _, by omega, by omega, by omega, by omega, by go_num, rfl, by rw [Hid, ← HF.out]; congr 1; omega, rfl⟩
          case measure => simp [intOf] <;> omega
      · have HF : Hid (fo = none) := by
          rw [Hid, ← hu.out]
          cases h : (k + 1).toNat with
          | zero => rfl
          | succ j => rw [Nib.fndD, if_neg (by omega)]
        clear hu
        go_wp2_with fail
        refine (fails_any _).mono ?_
        rintro e w1 ⟨rfl, h1⟩
        obtain ⟨hc1, hf1⟩ := bcell h1
        have hz1 := h1.size
        try simp at hz1
        go_wp2
        refine bodyPost_ret (v := .agg #[.int .i64 0, .int .i64 0, .bool true]) (by simp [results, Tryz.results115, go_sem, hc1, hz1]) rfl ⟨by rw [HX.out, HF.out]; simp [Nib.resU, Nib.resD]; try omega, ?_⟩
        repeat (with_reducible first | exact Below.refl _ _ | refine b_s ?_ _ | refine b_a ?_ _ | refine Below.drew ?_ | refine below_drewN ?_ _ | refine b_t ?_ h1)
        all_goals exact below_drewN (((Below.refl _ _).alloc (Nat.le_refl _) _).alloc (by simp) _) _
end Go.Proofs.YtlendfhehhacpaaGreat
