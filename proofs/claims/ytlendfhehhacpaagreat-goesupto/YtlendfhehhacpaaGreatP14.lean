/- Joined of the texts WalkG, WalkH, WalkI0. -/
import Derived.Test.YtlendfhehhacpaaGreatP12
import Derived.Test.YtlendfhehhacpaaGreatP01
import Derived.Deep.QuietTactic
import Derived.BigQuiet
import Derived.Test.YtlendfhehhacpaaGreatP13
set_option linter.unusedVariables false
set_option linter.unusedSimpArgs false
set_option maxRecDepth 100000
set_option maxHeartbeats 8000000
namespace Go.Proofs.YtlendfhehhacpaaGreat
open Go.RowKit
theorem goPart_down (s : ByteArray) (p n : Nat) (c : Int) (given v b : Bool) (w : World) (hs : s.size ≤ 1000) (hp : p ≤ s.size) (hn : n ≤ 99) :
    Calls Tryz.prog 116 #[.string s, .int .i64 p, .agg #[.int .u8 125, .int .u8 c, .int .i64 n, .bool given, .bool v, .bool b]] w fun e w' =>
      e = .returned (.agg #[.int .i64 (Nib.parQ s p n true v), .int .i64 0, .bool ((Nib.parQ s p n true v : Int) == (p : Int))]) ∧ Below w.heap.size w w' := by
  generalize hx : Nib.parQ s p n true v = x
  have HX : Hid (Nib.parQ s p n true v = x) := hx
  clear hx
  have hls := Nib.lns_le s
  go_enter Tryz.func116, Tryz.ntmps116
  go_wp2
  go_loop [7, 8] (fun q i => ∃ k : Nat, k ≤ n ∧ i = .int .i64 k ∧ q = .int .i64 (Nib.itr (Nib.parStep s true) k p)) (fun _ i => n - (intOf i).toNat)
  case atStart => exact ⟨0, by omega, rfl, rfl⟩
  case round =>
    obtain ⟨k, hk, rfl, rfl⟩ := hrel
    have hq := Nib.itr_p_le (down := true) hp k
    by_cases hlt : k < n
    · have HS : Hid (Nib.itr (Nib.parStep s true) (k + 1) p = Nib.parStep s true (Nib.itr (Nib.parStep s true) k p)) := rfl
      generalize Nib.itr (Nib.parStep s true) k p = q at *
      have hlq := Nib.lin_lt hq
      have HP : Hid (Nib.itr (Nib.parStep s true) (k + 1) p = Nib.parD s (Nib.lns s - 1 - Nib.lin s q) (Nib.lin s q + 1)) := by rw [Hid, HS.out]; simp [Nib.parStep]
      clear HS
      go_wp2_with fail
      refine (line_at s _ q _ hs rfl hq).mono ?_
      rintro e w' ⟨rfl, rfl⟩
      go_wp2_with fail
      refine (lines_any s _ hs).mono ?_
      rintro e w' ⟨rfl, rfl⟩
      go_wp2
      go_loop [11, 12] (fun to kk => ∃ j : Nat, Nib.lin s q ≤ j ∧ j ≤ Nib.lns s - 1 ∧ kk = .int .i64 j ∧ to = .int .i64 (Nib.parD s (Nib.lns s - 1 - j) (j + 1))) (fun _ kk => (intOf kk).toNat)
      case atStart => exact ⟨Nib.lns s - 1, by omega, by omega, by go_num, by rw [Nat.sub_self]; rfl⟩
      case round =>
        obtain ⟨j, hj1, hj2, rfl, rfl⟩ := hrel
        by_cases hlt2 : Nib.lin s q < j
        · have ha := (Nib.att_in (s := s) (m := j) (by omega)).1
          have ha1 := (Nib.att_in (s := s) (m := j - 1) (by omega)).1
          have HD : Hid (Nib.parD s (Nib.lns s - 1 - (j - 1)) j = if Nib.parB s j = true then Nib.att s j else Nib.parD s (Nib.lns s - 1 - j) (j + 1)) := by
            rw [Hid, show Nib.lns s - 1 - (j - 1) = (Nib.lns s - 1 - j) + 1 by omega, Nib.parD]
          cases hb : Nib.parB s j with
          | true =>
            have h12 : Nib.emp s (Nib.att s j) = true ∧ Nib.emp s (Nib.att s (j - 1)) = false := by simpa [Nib.parB] using hb
            obtain ⟨h1, h2⟩ := h12
            rw [Hid, if_pos hb] at HD
            have HD' : Hid (Nib.parD s (Nib.lns s - 1 - (j - 1)) j = Nib.att s j) := HD
            clear HD hb
            go_wp2_with fail
            refine (at_at s _ j _ hs rfl (by omega)).mono ?_
            rintro e w' ⟨rfl, rfl⟩
            go_wp2_with fail
            refine (empty_at s _ _ _ hs rfl ha).mono ?_
            rintro e w' ⟨rfl, rfl⟩
            go_wp2_with fail
            refine (at_at s _ (j - 1) _ hs (by omega) (by omega)).mono ?_
            rintro e w' ⟨rfl, rfl⟩
            go_wp2_with fail
            refine (empty_at s _ _ _ hs rfl ha1).mono ?_
            rintro e w' ⟨rfl, rfl⟩
            go_wp2_with fail
            refine (at_at s _ j _ hs rfl (by omega)).mono ?_
            rintro e w' ⟨rfl, rfl⟩
            go_wp2
            go_round
            case rel => exact ⟨j - 1, by omega, by omega, by go_num, by rw [show j - 1 + 1 = j by omega, HD'.out]⟩
            case measure => simp [intOf] <;> omega
          | false =>
            rw [Hid, if_neg (by simp [hb])] at HD
            have HD' : Hid (Nib.parD s (Nib.lns s - 1 - (j - 1)) j = Nib.parD s (Nib.lns s - 1 - j) (j + 1)) := HD
            clear HD
            cases h1 : Nib.emp s (Nib.att s j) with
            | false =>
              clear hb
              go_wp2_with fail
              refine (at_at s _ j _ hs rfl (by omega)).mono ?_
              rintro e w' ⟨rfl, rfl⟩
              go_wp2_with fail
              refine (empty_at s _ _ _ hs rfl ha).mono ?_
              rintro e w' ⟨rfl, rfl⟩
              go_wp2_with fail
              refine (at_at s _ (j - 1) _ hs (by omega) (by omega)).mono ?_
              rintro e w' ⟨rfl, rfl⟩
              go_wp2_with fail
              refine (empty_at s _ _ _ hs rfl ha1).mono ?_
              rintro e w' ⟨rfl, rfl⟩
              go_wp2
              go_round
              case rel => exact ⟨j - 1, by omega, by omega, by go_num, by rw [show j - 1 + 1 = j by omega, HD'.out]⟩
              case measure => simp [intOf] <;> omega
            | true =>
              have h2 : Nib.emp s (Nib.att s (j - 1)) = true := by simpa [Nib.parB, h1] using hb
              clear hb
              go_wp2_with fail
              refine (at_at s _ j _ hs rfl (by omega)).mono ?_
              rintro e w' ⟨rfl, rfl⟩
              go_wp2_with fail
              refine (empty_at s _ _ _ hs rfl ha).mono ?_
              rintro e w' ⟨rfl, rfl⟩
              go_wp2_with fail
              refine (at_at s _ (j - 1) _ hs (by omega) (by omega)).mono ?_
              rintro e w' ⟨rfl, rfl⟩
              go_wp2_with fail
              refine (empty_at s _ _ _ hs rfl ha1).mono ?_
              rintro e w' ⟨rfl, rfl⟩
              go_wp2
              go_round
              case rel => exact ⟨j - 1, by omega, by omega, by go_num, by rw [show j - 1 + 1 = j by omega, HD'.out]⟩
              case measure => simp [intOf] <;> omega
        · have hjq : j = Nib.lin s q := by omega
          have HJ : Hid (Nib.itr (Nib.parStep s true) (k + 1) p = Nib.parD s (Nib.lns s - 1 - j) (j + 1)) := by rw [Hid, HP.out, hjq]
          clear HP hjq
          go_wp2
          go_round
          case rel => exact ⟨k + 1, by omega, by go_num, by rw [HJ.out]⟩
          case measure => simp [intOf] <;> omega
    · have hkn : k = n := by omega
      subst hkn
      cases v with
      | true =>
        have HY : Hid (x = Nib.itr (Nib.parStep s true) k p) := by rw [Hid, ← HX.out]; simp [Nib.parQ]
        clear HX
        go_wp2
        refine bodyPost_ret (v := .agg #[.int .i64 (Nib.itr (Nib.parStep s true) k p), .int .i64 0, .bool ((Nib.itr (Nib.parStep s true) k p : Int) == (p : Int))]) (by simp [results, Tryz.results116, go_sem]) rfl ⟨by rw [HY.out], ?_⟩
        repeat (with_reducible first | exact Below.refl _ _ | refine b_s ?_ _ | refine b_a ?_ _ | refine Below.drew ?_ | refine below_drewN ?_ _)
      | false =>
        have HY : Hid (x = Nib.clm s (Nib.itr (Nib.parStep s true) k p)) := by rw [Hid, ← HX.out]; simp [Nib.parQ]
        clear HX
        go_wp2_with fail
        refine (clamp_at s _ _ _ hs rfl hq).mono ?_
        rintro e w' ⟨rfl, rfl⟩
        go_wp2
        refine bodyPost_ret (v := .agg #[.int .i64 (Nib.clm s (Nib.itr (Nib.parStep s true) k p)), .int .i64 0, .bool ((Nib.clm s (Nib.itr (Nib.parStep s true) k p) : Int) == (p : Int))]) (by simp [results, Tryz.results116, go_sem]) rfl ⟨by rw [HY.out], ?_⟩
        repeat (with_reducible first | exact Below.refl _ _ | refine b_s ?_ _ | refine b_a ?_ _ | refine Below.drew ?_ | refine below_drewN ?_ _)
theorem goPart_up (s : ByteArray) (p n : Nat) (c : Int) (given v b : Bool) (w : World) (hs : s.size ≤ 1000) (hp : p ≤ s.size) (hn : n ≤ 99) :
    Calls Tryz.prog 116 #[.string s, .int .i64 p, .agg #[.int .u8 123, .int .u8 c, .int .i64 n, .bool given, .bool v, .bool b]] w fun e w' =>
      e = .returned (.agg #[.int .i64 (Nib.parQ s p n false v), .int .i64 0, .bool ((Nib.parQ s p n false v : Int) == (p : Int))]) ∧ Below w.heap.size w w' := by
  generalize hx : Nib.parQ s p n false v = x
  have HX : Hid (Nib.parQ s p n false v = x) := hx
  clear hx
  have hls := Nib.lns_le s
  go_enter Tryz.func116, Tryz.ntmps116
  go_wp2
  go_loop [7, 8] (fun q i => ∃ k : Nat, k ≤ n ∧ i = .int .i64 k ∧ q = .int .i64 (Nib.itr (Nib.parStep s false) k p)) (fun _ i => n - (intOf i).toNat)
  case atStart => exact ⟨0, by omega, rfl, rfl⟩
  case round =>
    obtain ⟨k, hk, rfl, rfl⟩ := hrel
    have hq := Nib.itr_p_le (down := false) hp k
    by_cases hlt : k < n
    · have HS : Hid (Nib.itr (Nib.parStep s false) (k + 1) p = Nib.parStep s false (Nib.itr (Nib.parStep s false) k p)) := rfl
      generalize Nib.itr (Nib.parStep s false) k p = q at *
      have hlq := Nib.lin_lt hq
      have HP : Hid (Nib.itr (Nib.parStep s false) (k + 1) p = Nib.parU s (Nib.lin s q)) := by rw [Hid, HS.out]; simp [Nib.parStep]
      clear HS
      go_wp2_with fail
      refine (line_at s _ q _ hs rfl hq).mono ?_
      rintro e w' ⟨rfl, rfl⟩
      go_wp2_with fail
      refine (lines_any s _ hs).mono ?_
      rintro e w' ⟨rfl, rfl⟩
      go_wp2
      go_loop [11, 15] (fun to kk => ∃ j : Nat, j ≤ Nib.lin s q ∧ kk = .int .i64 j ∧ to = .int .i64 (Nib.parU s j)) (fun _ kk => Nib.lin s q - (intOf kk).toNat)
      case atStart => exact ⟨0, by omega, rfl, rfl⟩
      case round =>
        obtain ⟨j, hj1, rfl, rfl⟩ := hrel
        by_cases hlt2 : j < Nib.lin s q
        · have ha := (Nib.att_in (s := s) (m := j) (by omega)).1
          have ha1 := (Nib.att_in (s := s) (m := j + 1) (by omega)).1
          have HD : Hid (Nib.parU s (j + 1) = if Nib.parA s j = true then Nib.att s j else Nib.parU s j) := rfl
          cases hb : Nib.parA s j with
          | true =>
            have h12 : Nib.emp s (Nib.att s j) = true ∧ Nib.emp s (Nib.att s (j + 1)) = false := by simpa [Nib.parA] using hb
            obtain ⟨h1, h2⟩ := h12
            rw [Hid, if_pos hb] at HD
            have HD' : Hid (Nib.parU s (j + 1) = Nib.att s j) := HD
            clear HD hb
            go_wp2_with fail
            refine (at_at s _ j _ hs rfl (by omega)).mono ?_
            rintro e w' ⟨rfl, rfl⟩
            go_wp2_with fail
            refine (empty_at s _ _ _ hs rfl ha).mono ?_
            rintro e w' ⟨rfl, rfl⟩
            go_wp2_with fail
            refine (at_at s _ (j + 1) _ hs (by omega) (by omega)).mono ?_
            rintro e w' ⟨rfl, rfl⟩
            go_wp2_with fail
            refine (empty_at s _ _ _ hs rfl ha1).mono ?_
            rintro e w' ⟨rfl, rfl⟩
            go_wp2_with fail
            refine (at_at s _ j _ hs rfl (by omega)).mono ?_
            rintro e w' ⟨rfl, rfl⟩
            go_wp2
            go_round
            case rel => exact ⟨j + 1, by omega, by go_num, by rw [HD'.out]⟩
            case measure => simp [intOf] <;> omega
          | false =>
            rw [Hid, if_neg (by simp [hb])] at HD
            have HD' : Hid (Nib.parU s (j + 1) = Nib.parU s j) := HD
            clear HD
            cases h1 : Nib.emp s (Nib.att s j) with
            | false =>
              clear hb
              go_wp2_with fail
              refine (at_at s _ j _ hs rfl (by omega)).mono ?_
              rintro e w' ⟨rfl, rfl⟩
              go_wp2_with fail
              refine (empty_at s _ _ _ hs rfl ha).mono ?_
              rintro e w' ⟨rfl, rfl⟩
              go_wp2_with fail
              refine (at_at s _ (j + 1) _ hs (by omega) (by omega)).mono ?_
              rintro e w' ⟨rfl, rfl⟩
              go_wp2_with fail
              refine (empty_at s _ _ _ hs rfl ha1).mono ?_
              rintro e w' ⟨rfl, rfl⟩
              go_wp2
              go_round
              case rel => exact ⟨j + 1, by omega, by go_num, by rw [HD'.out]⟩
              case measure => simp [intOf] <;> omega
            | true =>
              have h2 : Nib.emp s (Nib.att s (j + 1)) = true := by simpa [Nib.parA, h1] using hb
              clear hb
              go_wp2_with fail
              refine (at_at s _ j _ hs rfl (by omega)).mono ?_
              rintro e w' ⟨rfl, rfl⟩
              go_wp2_with fail
              refine (empty_at s _ _ _ hs rfl ha).mono ?_
              rintro e w' ⟨rfl, rfl⟩
              go_wp2_with fail
              refine (at_at s _ (j + 1) _ hs (by omega) (by omega)).mono ?_
              rintro e w' ⟨rfl, rfl⟩
              go_wp2_with fail
              refine (empty_at s _ _ _ hs rfl ha1).mono ?_
              rintro e w' ⟨rfl, rfl⟩
              go_wp2
              go_round
              case rel => exact ⟨j + 1, by omega, by go_num, by rw [HD'.out]⟩
              case measure => simp [intOf] <;> omega
        · have hjq : j = Nib.lin s q := by omega
          have HJ : Hid (Nib.itr (Nib.parStep s false) (k + 1) p = Nib.parU s j) := by rw [Hid, HP.out, hjq]
          clear HP hjq
          go_wp2
          go_round
          case rel => exact ⟨k + 1, by omega, by go_num, by rw [HJ.out]⟩
          case measure => simp [intOf] <;> omega
    · have hkn : k = n := by omega
      subst hkn
      cases v with
      | true =>
        have HY : Hid (x = Nib.itr (Nib.parStep s false) k p) := by rw [Hid, ← HX.out]; simp [Nib.parQ]
        clear HX
        go_wp2
        refine bodyPost_ret (v := .agg #[.int .i64 (Nib.itr (Nib.parStep s false) k p), .int .i64 0, .bool ((Nib.itr (Nib.parStep s false) k p : Int) == (p : Int))]) (by simp [results, Tryz.results116, go_sem]) rfl ⟨by rw [HY.out], ?_⟩
        repeat (with_reducible first | exact Below.refl _ _ | refine b_s ?_ _ | refine b_a ?_ _ | refine Below.drew ?_ | refine below_drewN ?_ _)
      | false =>
        have HY : Hid (x = Nib.clm s (Nib.itr (Nib.parStep s false) k p)) := by rw [Hid, ← HX.out]; simp [Nib.parQ]
        clear HX
        go_wp2_with fail
        refine (clamp_at s _ _ _ hs rfl hq).mono ?_
        rintro e w' ⟨rfl, rfl⟩
        go_wp2
        refine bodyPost_ret (v := .agg #[.int .i64 (Nib.clm s (Nib.itr (Nib.parStep s false) k p)), .int .i64 0, .bool ((Nib.clm s (Nib.itr (Nib.parStep s false) k p) : Int) == (p : Int))]) (by simp [results, Tryz.results116, go_sem]) rfl ⟨by rw [HY.out], ?_⟩
        repeat (with_reducible first | exact Below.refl _ _ | refine b_s ?_ _ | refine b_a ?_ _ | refine Below.drew ?_ | refine below_drewN ?_ _)
theorem partner_any (c : Int) (w : World) :
    Calls Tryz.prog 92 #[.int .u8 c] w fun e w' => e = .returned (.tuple #[.int .u8 (Nib.prt c), .bool (Nib.opn c)]) ∧ w' = w := by
  by_cases h : c = 40 ∨ c = 91 ∨ c = 123 ∨ c = 41 ∨ c = 93 ∨ c = 125
  · rcases h with rfl | rfl | rfl | rfl | rfl | rfl
    all_goals
      go_enter Tryz.func92, Tryz.ntmps92
      go_wp2
      go_ret2
      exact ⟨rfl, rfl⟩
  · have h1 : (c == 40) = false := by simp; omega
    have h2 : (c == 91) = false := by simp; omega
    have h3 : (c == 123) = false := by simp; omega
    have h4 : (c == 41) = false := by simp; omega
    have h5 : (c == 93) = false := by simp; omega
    have h6 : (c == 125) = false := by simp; omega
    have HP : Hid (Nib.prt c = 0) := by simp only [Hid, Nib.prt]; (repeat' split) <;> omega
    have HO : Hid (Nib.opn c = false) := by simp [Hid, Nib.opn, h1, h2, h3]
    clear h
    go_enter Tryz.func92, Tryz.ntmps92
    go_wp2
    go_ret2
    exact ⟨by rw [HP.out, HO.out]; rfl, rfl⟩
theorem match_any (s : ByteArray) (p : Nat) (w : World) (hs : s.size ≤ 1000) (hp : p < s.size) :
    Calls Tryz.prog 93 #[.string s, .int .i64 p] w fun e w' => e = .returned (.int .i64 (Nib.mtch s p)) ∧ ∃ d, w' = w.drewN d := by
  have hpi : (p : Int) < (s.size : Int) := by omega
  have HB : Hid (Nib.bt s p = ((s[p]'hp).toNat : Int)) := Nib.bt_in hp
  generalize hx : Nib.mtch s p = x
  have HX : Hid (x = if Nib.opn ((s[p]'hp).toNat : Int) = true then Nib.mtU s ((s[p]'hp).toNat : Int) (Nib.prt ((s[p]'hp).toNat : Int)) (s.size - p) 0 p else Nib.mtD s ((s[p]'hp).toNat : Int) (Nib.prt ((s[p]'hp).toNat : Int)) 0 (p + 1)) := by
    rw [Hid, ← hx, ← Nib.bt_in hp]; rfl
  clear hx
  cases ho : Nib.opn ((s[p]'hp).toNat : Int) with
  | true =>
    have HR : Hid (Nib.mtU s ((s[p]'hp).toNat : Int) (Nib.prt ((s[p]'hp).toNat : Int)) (s.size - p) 0 p = x) := by rw [Hid, HX.out, if_pos ho]
    clear HX
    go_enter Tryz.func93, Tryz.ntmps93
    go_wp2_with fail
    refine (partner_any _ _).mono ?_
    rintro e w' ⟨rfl, rfl⟩
    go_wp2
    go_loopw [8, 9] (fun nn i wr => ∃ (m : Int) (k d : Nat), p ≤ k ∧ k ≤ s.size ∧ -(k - p : Int) ≤ m ∧ m ≤ (k - p : Int) ∧ i = .int .i64 k ∧ nn = .int .i64 m ∧ Hid (Nib.mtU s ((s[p]'hp).toNat : Int) (Nib.prt ((s[p]'hp).toNat : Int)) (s.size - k) m k = x) ∧ wr = w'.drewN d) (fun _ i _ => s.size - (intOf i).toNat)
    case atStart => exact ⟨0, p, 0, by omega, by omega, by omega, by omega, rfl, rfl, HR, rfl⟩
    case round =>
      clear HR
      obtain ⟨m, k, d, hk1, hk2, hm1, hm2, rfl, rfl, hu, rfl⟩ := hrel
      by_cases hlt : k < s.size
      · have hki : (k : Int) < (s.size : Int) := by omega
        have HS : Hid (x = if Nib.dep s ((s[p]'hp).toNat : Int) (Nib.prt ((s[p]'hp).toNat : Int)) m k = 0 then (k : Int) else Nib.mtU s ((s[p]'hp).toNat : Int) (Nib.prt ((s[p]'hp).toNat : Int)) (s.size - (k + 1)) (Nib.dep s ((s[p]'hp).toNat : Int) (Nib.prt ((s[p]'hp).toNat : Int)) m k) (k + 1)) := by
          rw [Hid, ← hu.out]
          obtain ⟨f, hf⟩ : ∃ f, s.size - k = f + 1 := ⟨s.size - k - 1, by omega⟩
          rw [hf, show s.size - (k + 1) = f by omega, Nib.mtU, if_pos hlt]
        clear hu
        have HD : Hid (Nib.dep s ((s[p]'hp).toNat : Int) (Nib.prt ((s[p]'hp).toNat : Int)) m k = m + (if (((s[k]'hlt).toNat : Int) == ((s[p]'hp).toNat : Int)) = true then 1 else 0) - (if (((s[k]'hlt).toNat : Int) == Nib.prt ((s[p]'hp).toNat : Int)) = true then 1 else 0)) := by
          simp [Hid, Nib.dep, Nib.bt_in hlt]
        generalize Nib.dep s ((s[p]'hp).toNat : Int) (Nib.prt ((s[p]'hp).toNat : Int)) m k = D at HS HD
        cases h1 : (((s[k]'hlt).toNat : Int) == ((s[p]'hp).toNat : Int))
        all_goals
          cases h2 : (((s[k]'hlt).toNat : Int) == Nib.prt ((s[p]'hp).toNat : Int))
          all_goals
            simp only [Hid, h1, h2, if_true, if_false, Bool.false_eq_true, Int.add_zero, Int.sub_zero, Int.add_sub_cancel] at HD
            have h3 := Bool.eq_false_or_eq_true (D == 0)
            subst HD
            rcases h3 with h3 | h3
            · go_wp2_with fail
              go_quiet (fail)
              go_wp2
              go_ret
              exact ⟨ret_int (by rw [HS.out, if_pos (by simpa using h3)]), _, rfl⟩
            · go_wp2_with fail
              go_quiet (fail)
              go_wp2
              exact ⟨⟨_, k + 1, _, by omega, by omega, by omega, by omega, by go_num, rfl, by rw [Hid, HS.out, if_neg (by simpa using h3)], rfl⟩, by simp [intOf] <;> omega⟩
      · have HF : Hid (x = -1) := by rw [Hid, ← hu.out, show s.size - k = 0 by omega, Nib.mtU]
        clear hu
        go_wp2
        go_ret
        exact ⟨ret_int (by rw [HF.out]), _, rfl⟩
  | false =>
    have HR : Hid (Nib.mtD s ((s[p]'hp).toNat : Int) (Nib.prt ((s[p]'hp).toNat : Int)) 0 (p + 1) = x) := by rw [Hid, HX.out, if_neg (by simp [ho])]
    clear HX
    go_enter Tryz.func93, Tryz.ntmps93
    go_wp2_with fail
    refine (partner_any _ _).mono ?_
    rintro e w' ⟨rfl, rfl⟩
    go_wp2
    go_loopw [8, 9] (fun nn i wr => ∃ (m : Int) (k : Int) (d : Nat), -1 ≤ k ∧ k ≤ p ∧ -(p - k : Int) ≤ m ∧ m ≤ (p - k : Int) ∧ i = .int .i64 k ∧ nn = .int .i64 m ∧ Hid (Nib.mtD s ((s[p]'hp).toNat : Int) (Nib.prt ((s[p]'hp).toNat : Int)) m (k + 1).toNat = x) ∧ wr = w'.drewN d) (fun _ i _ => (intOf i + 1).toNat)
    case atStart => exact ⟨0, p, 0, by omega, by omega, by omega, by omega, rfl, rfl, HR, rfl⟩
    case round =>
      clear HR
      obtain ⟨m, k, d, hk1, hk2, hm1, hm2, rfl, rfl, hu, rfl⟩ := hrel
      by_cases hlt : 0 ≤ k
      · obtain ⟨k, rfl⟩ := Int.eq_ofNat_of_zero_le hlt
        have hlt : k < s.size := by omega
        have hki : (k : Int) < (s.size : Int) := by omega
        have HS : Hid (x = if Nib.dep s ((s[p]'hp).toNat : Int) (Nib.prt ((s[p]'hp).toNat : Int)) m k = 0 then (k : Int) else Nib.mtD s ((s[p]'hp).toNat : Int) (Nib.prt ((s[p]'hp).toNat : Int)) (Nib.dep s ((s[p]'hp).toNat : Int) (Nib.prt ((s[p]'hp).toNat : Int)) m k) k) := by
          rw [Hid, ← hu.out, show ((k : Int) + 1).toNat = k + 1 by omega, Nib.mtD]
        clear hu
        have HD : Hid (Nib.dep s ((s[p]'hp).toNat : Int) (Nib.prt ((s[p]'hp).toNat : Int)) m k = m + (if (((s[k]'hlt).toNat : Int) == ((s[p]'hp).toNat : Int)) = true then 1 else 0) - (if (((s[k]'hlt).toNat : Int) == Nib.prt ((s[p]'hp).toNat : Int)) = true then 1 else 0)) := by
          simp [Hid, Nib.dep, Nib.bt_in hlt]
        generalize Nib.dep s ((s[p]'hp).toNat : Int) (Nib.prt ((s[p]'hp).toNat : Int)) m k = D at HS HD
        cases h1 : (((s[k]'hlt).toNat : Int) == ((s[p]'hp).toNat : Int))
        all_goals
          cases h2 : (((s[k]'hlt).toNat : Int) == Nib.prt ((s[p]'hp).toNat : Int))
          all_goals
            simp only [Hid, h1, h2, if_true, if_false, Bool.false_eq_true, Int.add_zero, Int.sub_zero, Int.add_sub_cancel] at HD
            have h3 := Bool.eq_false_or_eq_true (D == 0)
            subst HD
            rcases h3 with h3 | h3
            · go_wp2_with fail
              go_quiet (fail)
              go_wp2
              go_ret
              exact ⟨ret_int (by rw [HS.out, if_pos (by simpa using h3)]), _, rfl⟩
            · go_wp2_with fail
              go_quiet (fail)
              go_wp2
              exact ⟨⟨_, (k : Int) - 1, _, by omega, by omega, by omega, by omega, by go_num, rfl, by rw [Hid, HS.out, if_neg (by simpa using h3)]; congr 1; omega, rfl⟩, by simp [intOf] <;> omega⟩
      · have HF : Hid (x = -1) := by rw [Hid, ← hu.out, show (k + 1).toNat = 0 by omega, Nib.mtD]
        clear hu
        go_wp2
        go_ret
        exact ⟨ret_int (by rw [HF.out]), _, rfl⟩
theorem goPair_any (s : ByteArray) (p : Nat) (w : World) (hs : s.size ≤ 1000) (hp : p ≤ s.size) :
    Calls Tryz.prog 117 #[.string s, .int .i64 p] w fun e w' =>
      e = .returned (.agg #[.int .i64 (Nib.pairWay s p).1, .int .i64 (Nib.pairWay s p).2.1, .bool (Nib.pairWay s p).2.2]) ∧ Below w.heap.size w w' := by
  generalize hx : Nib.pairWay s p = x
  have HX : Hid (x = if Nib.up (Nib.nobr s) (Nib.fin s p) p < Nib.fin s p then (Nib.mtch s (Nib.up (Nib.nobr s) (Nib.fin s p) p), 1, decide (Nib.mtch s (Nib.up (Nib.nobr s) (Nib.fin s p) p) < 0)) else (0, 0, true)) := by rw [Hid, ← hx]; rfl
  clear hx
  generalize hu0 : Nib.up (Nib.nobr s) (Nib.fin s p) p = u at HX
  have HU : Hid (Nib.up (Nib.nobr s) (Nib.fin s p) p = u) := hu0
  clear hu0
  have hfp := Nib.fin_le hp
  have hfg := Nib.fin_ge s p
  go_enter Tryz.func117, Tryz.ntmps117
  go_wp2_with fail
  refine (end_at s _ p _ hs rfl (by omega)).mono ?_
  rintro e w' ⟨rfl, rfl⟩
  go_wp2
  go_loop [6] (fun i => ∃ k : Nat, p ≤ k ∧ k ≤ Nib.fin s p ∧ i = .int .i64 k ∧ Hid (Nib.up (Nib.nobr s) (Nib.fin s p) k = u)) (fun i => Nib.fin s p - (intOf i).toNat)
  case atStart => exact ⟨p, by omega, by omega, rfl, HU⟩
  case round =>
    clear HU
    obtain ⟨k, hk1, hk2, rfl, hu⟩ := hrel
    by_cases hlt : k < Nib.fin s p
    · have hks : k < s.size := by omega
      cases hb : Nib.nobr s k with
      | true =>
        have HS : Hid (Nib.up (Nib.nobr s) (Nib.fin s p) (k + 1) = u) := by rw [Hid, ← hu.out, Nib.up_step hlt hb]
        have hb' : (Nib.prt ((s[k]'hks).toNat : Int) != 0) = false := by rw [← Nib.bt_in hks]; simpa [Nib.nobr] using hb
        clear hu hb
        go_wp2_with fail
        refine (partner_any _ _).mono ?_
        rintro e w' ⟨rfl, rfl⟩
        go_wp2
        go_round
        case rel => exact ⟨k + 1, by omega, by omega, by go_num, HS⟩
        case measure => simp [intOf] <;> omega
      | false =>
        have HK : Hid (x = (Nib.mtch s k, 1, decide (Nib.mtch s k < 0))) := by
          have e : k = u := by rw [← hu.out, Nib.up_stop]; simp [hb]
          rw [Hid, HX.out, ← e, if_pos hlt]
        have hb' : (Nib.prt ((s[k]'hks).toNat : Int) != 0) = true := by rw [← Nib.bt_in hks]; simpa [Nib.nobr] using hb
        clear hu hb HX
        go_wp2_with fail
        refine (partner_any _ _).mono ?_
        rintro e w' ⟨rfl, rfl⟩
        go_wp2_with fail
        refine (match_any s k _ hs hks).mono ?_
        rintro e w2 ⟨rfl, d, rfl⟩
        go_wp2
        refine bodyPost_ret (v := .agg #[.int .i64 (Nib.mtch s k), .int .i64 1, .bool (decide (Nib.mtch s k < 0))]) (by simp [results, Tryz.results117, go_sem]) rfl ⟨by rw [HK.out], ?_⟩
        repeat (with_reducible first | exact Below.refl _ _ | refine b_s ?_ _ | refine b_a ?_ _ | refine Below.drew ?_ | refine below_drewN ?_ _)
        all_goals exact below_drewN ((Below.refl _ _).alloc (Nat.le_refl _) _) _
    · have HK : Hid (x = (0, 0, true)) := by
        have e : k = u := by rw [← hu.out, Nib.up_stop]; simp [hlt]
        rw [Hid, HX.out, ← e, if_neg hlt]
      clear hu HX
      go_wp2_with fail
      refine (fails_any _).mono ?_
      rintro e w1 ⟨rfl, h1⟩
      obtain ⟨hc1, hf1⟩ := bcell h1
      have hz1 := h1.size
      try simp at hz1
      go_wp2
      refine bodyPost_ret (v := .agg #[.int .i64 0, .int .i64 0, .bool true]) (by simp [results, Tryz.results117, go_sem, hc1, hz1]) rfl ⟨by rw [HK.out], ?_⟩
      repeat (with_reducible first | exact Below.refl _ _ | refine b_s ?_ _ | refine b_a ?_ _ | refine Below.drew ?_ | refine below_drewN ?_ _ | refine b_t ?_ h1)
theorem go_h (s : ByteArray) (p n : Nat) (c : Int) (given v b : Bool) (w : World) (hs : s.size ≤ 1000) (hp : p ≤ s.size) (hn1 : 1 ≤ n) (hn : n ≤ 99) :
    Calls Tryz.prog 109 #[.string s, .int .i64 p, .agg #[.int .u8 104, .int .u8 c, .int .i64 n, .bool given, .bool v, .bool b]] w fun e w' =>
      e = .returned (.agg #[.int .i64 (Nib.goWay s p 104 c n given v b).1, .int .i64 (Nib.goWay s p 104 c n given v b).2.1, .bool (Nib.goWay s p 104 c n given v b).2.2]) ∧ Below w.heap.size w w' := by
  have hbp := Nib.beg_le s p
  have hfp := Nib.fin_le hp
  have hfg := Nib.fin_ge s p
  have hlp := Nib.lst_in hp
  generalize hx : Nib.goWay s p 104 c n given v b = x
  have HX : Hid (Nib.goWay s p 104 c n given v b = x) := hx
  clear hx
  have HY : Hid (x = Nib.wayH s p n) := by rw [Hid, ← HX.out]; rfl
  clear HX
  by_cases hlt : (p : Int) - n < Nib.beg s p
  · have HZ : Hid (x = ((Nib.beg s p : Int), 0, (p : Int) == (Nib.beg s p : Int))) := by rw [Hid, HY.out, Nib.wayH, if_pos hlt]
    clear HY
    go_enter Tryz.func109, Tryz.ntmps109
    go_wp2_with fail
    refine (begin_at s _ p _ hs rfl hp).mono ?_
    rintro e w' ⟨rfl, rfl⟩
    go_wp2_with fail
    refine (end_at s _ p _ hs rfl (by omega)).mono ?_
    rintro e w' ⟨rfl, rfl⟩
    go_wp2
    refine bodyPost_ret (v := .agg #[.int .i64 (Nib.beg s p), .int .i64 0, .bool ((p : Int) == (Nib.beg s p : Int))]) (by simp [results, Tryz.results109, go_sem]) rfl ⟨by rw [HZ.out], ?_⟩
    repeat (with_reducible first | exact Below.refl _ _ | refine b_s ?_ _ | refine b_a ?_ _ | refine Below.drew ?_ | refine below_drewN ?_ _)
  · have HZ : Hid (x = ((p : Int) - n, 0, (p : Int) == (Nib.beg s p : Int))) := by rw [Hid, HY.out, Nib.wayH, if_neg hlt]
    clear HY
    go_enter Tryz.func109, Tryz.ntmps109
    go_wp2_with fail
    refine (begin_at s _ p _ hs rfl hp).mono ?_
    rintro e w' ⟨rfl, rfl⟩
    go_wp2_with fail
    refine (end_at s _ p _ hs rfl (by omega)).mono ?_
    rintro e w' ⟨rfl, rfl⟩
    go_wp2
    refine bodyPost_ret (v := .agg #[.int .i64 ((p : Int) - n), .int .i64 0, .bool ((p : Int) == (Nib.beg s p : Int))]) (by simp [results, Tryz.results109, go_sem]) rfl ⟨by rw [HZ.out], ?_⟩
    repeat (with_reducible first | exact Below.refl _ _ | refine b_s ?_ _ | refine b_a ?_ _ | refine Below.drew ?_ | refine below_drewN ?_ _)
theorem go_l (s : ByteArray) (p n : Nat) (c : Int) (given v b : Bool) (w : World) (hs : s.size ≤ 1000) (hp : p ≤ s.size) (hn1 : 1 ≤ n) (hn : n ≤ 99) :
    Calls Tryz.prog 109 #[.string s, .int .i64 p, .agg #[.int .u8 108, .int .u8 c, .int .i64 n, .bool given, .bool v, .bool b]] w fun e w' =>
      e = .returned (.agg #[.int .i64 (Nib.goWay s p 108 c n given v b).1, .int .i64 (Nib.goWay s p 108 c n given v b).2.1, .bool (Nib.goWay s p 108 c n given v b).2.2]) ∧ Below w.heap.size w w' := by
  have hbp := Nib.beg_le s p
  have hfp := Nib.fin_le hp
  have hfg := Nib.fin_ge s p
  have hlp := Nib.lst_in hp
  generalize hx : Nib.goWay s p 108 c n given v b = x
  have HX : Hid (Nib.goWay s p 108 c n given v b = x) := hx
  clear hx
  cases v with
  | true =>
    have HY : Hid (x = Nib.wayL s p n true) := by rw [Hid, ← HX.out]; rfl
    clear HX
    by_cases hlt : (Nib.fin s p : Int) < (p : Int) + n
    · have HZ : Hid (x = ((Nib.fin s p : Int), 0, decide ((Nib.fin s p : Int) ≤ (p : Int)))) := by rw [Hid, HY.out, Nib.wayL]; simp only [Nib.mostL, Bool.false_eq_true, if_true, if_false]; rw [if_pos hlt]
      clear HY
      go_enter Tryz.func109, Tryz.ntmps109
      go_wp2_with fail
      refine (begin_at s _ p _ hs rfl hp).mono ?_
      rintro e w' ⟨rfl, rfl⟩
      go_wp2_with fail
      refine (end_at s _ p _ hs rfl (by omega)).mono ?_
      rintro e w' ⟨rfl, rfl⟩
      go_wp2_with fail
      refine (last_at s _ p _ hs rfl hp).mono ?_
      rintro e w' ⟨rfl, rfl⟩
      go_wp2
      refine bodyPost_ret (v := .agg #[.int .i64 ((Nib.fin s p : Int)), .int .i64 0, .bool (decide ((Nib.fin s p : Int) ≤ (p : Int)))]) (by simp [results, Tryz.results109, go_sem]) rfl ⟨by rw [HZ.out], ?_⟩
      repeat (with_reducible first | exact Below.refl _ _ | refine b_s ?_ _ | refine b_a ?_ _ | refine Below.drew ?_ | refine below_drewN ?_ _)
    · have HZ : Hid (x = ((p : Int) + n, 0, decide ((p : Int) + n ≤ (p : Int)))) := by rw [Hid, HY.out, Nib.wayL]; simp only [Nib.mostL, Bool.false_eq_true, if_true, if_false]; rw [if_neg hlt]
      clear HY
      go_enter Tryz.func109, Tryz.ntmps109
      go_wp2_with fail
      refine (begin_at s _ p _ hs rfl hp).mono ?_
      rintro e w' ⟨rfl, rfl⟩
      go_wp2_with fail
      refine (end_at s _ p _ hs rfl (by omega)).mono ?_
      rintro e w' ⟨rfl, rfl⟩
      go_wp2_with fail
      refine (last_at s _ p _ hs rfl hp).mono ?_
      rintro e w' ⟨rfl, rfl⟩
      go_wp2
      refine bodyPost_ret (v := .agg #[.int .i64 ((p : Int) + n), .int .i64 0, .bool (decide ((p : Int) + n ≤ (p : Int)))]) (by simp [results, Tryz.results109, go_sem]) rfl ⟨by rw [HZ.out], ?_⟩
      repeat (with_reducible first | exact Below.refl _ _ | refine b_s ?_ _ | refine b_a ?_ _ | refine Below.drew ?_ | refine below_drewN ?_ _)
  | false =>
    have HY : Hid (x = Nib.wayL s p n false) := by rw [Hid, ← HX.out]; rfl
    clear HX
    by_cases hlt : (Nib.lst s p : Int) < (p : Int) + n
    · have HZ : Hid (x = ((Nib.lst s p : Int), 0, decide ((Nib.lst s p : Int) ≤ (p : Int)))) := by rw [Hid, HY.out, Nib.wayL]; simp only [Nib.mostL, Bool.false_eq_true, if_true, if_false]; rw [if_pos hlt]
      clear HY
      go_enter Tryz.func109, Tryz.ntmps109
      go_wp2_with fail
      refine (begin_at s _ p _ hs rfl hp).mono ?_
      rintro e w' ⟨rfl, rfl⟩
      go_wp2_with fail
      refine (end_at s _ p _ hs rfl (by omega)).mono ?_
      rintro e w' ⟨rfl, rfl⟩
      go_wp2_with fail
      refine (last_at s _ p _ hs rfl hp).mono ?_
      rintro e w' ⟨rfl, rfl⟩
      go_wp2
      refine bodyPost_ret (v := .agg #[.int .i64 ((Nib.lst s p : Int)), .int .i64 0, .bool (decide ((Nib.lst s p : Int) ≤ (p : Int)))]) (by simp [results, Tryz.results109, go_sem]) rfl ⟨by rw [HZ.out], ?_⟩
      repeat (with_reducible first | exact Below.refl _ _ | refine b_s ?_ _ | refine b_a ?_ _ | refine Below.drew ?_ | refine below_drewN ?_ _)
    · have HZ : Hid (x = ((p : Int) + n, 0, decide ((p : Int) + n ≤ (p : Int)))) := by rw [Hid, HY.out, Nib.wayL]; simp only [Nib.mostL, Bool.false_eq_true, if_true, if_false]; rw [if_neg hlt]
      clear HY
      go_enter Tryz.func109, Tryz.ntmps109
      go_wp2_with fail
      refine (begin_at s _ p _ hs rfl hp).mono ?_
      rintro e w' ⟨rfl, rfl⟩
      go_wp2_with fail
      refine (end_at s _ p _ hs rfl (by omega)).mono ?_
      rintro e w' ⟨rfl, rfl⟩
      go_wp2_with fail
      refine (last_at s _ p _ hs rfl hp).mono ?_
      rintro e w' ⟨rfl, rfl⟩
      go_wp2
      refine bodyPost_ret (v := .agg #[.int .i64 ((p : Int) + n), .int .i64 0, .bool (decide ((p : Int) + n ≤ (p : Int)))]) (by simp [results, Tryz.results109, go_sem]) rfl ⟨by rw [HZ.out], ?_⟩
      repeat (with_reducible first | exact Below.refl _ _ | refine b_s ?_ _ | refine b_a ?_ _ | refine Below.drew ?_ | refine below_drewN ?_ _)
theorem go_0 (s : ByteArray) (p n : Nat) (c : Int) (given v b : Bool) (w : World) (hs : s.size ≤ 1000) (hp : p ≤ s.size) (hn1 : 1 ≤ n) (hn : n ≤ 99) :
    Calls Tryz.prog 109 #[.string s, .int .i64 p, .agg #[.int .u8 48, .int .u8 c, .int .i64 n, .bool given, .bool v, .bool b]] w fun e w' =>
      e = .returned (.agg #[.int .i64 (Nib.goWay s p 48 c n given v b).1, .int .i64 (Nib.goWay s p 48 c n given v b).2.1, .bool (Nib.goWay s p 48 c n given v b).2.2]) ∧ Below w.heap.size w w' := by
  have hbp := Nib.beg_le s p
  have hfp := Nib.fin_le hp
  have hfg := Nib.fin_ge s p
  have hlp := Nib.lst_in hp
  generalize hx : Nib.goWay s p 48 c n given v b = x
  have HX : Hid (Nib.goWay s p 48 c n given v b = x) := hx
  clear hx
  have HY : Hid (x = ((Nib.beg s p : Int), 0, false)) := by rw [Hid, ← HX.out]; rfl
  clear HX
  go_enter Tryz.func109, Tryz.ntmps109
  go_wp2_with fail
  refine (begin_at s _ p _ hs rfl hp).mono ?_
  rintro e w' ⟨rfl, rfl⟩
  go_wp2_with fail
  refine (end_at s _ p _ hs rfl (by omega)).mono ?_
  rintro e w' ⟨rfl, rfl⟩
  go_wp2
  refine bodyPost_ret (v := .agg #[.int .i64 (Nib.beg s p), .int .i64 0, .bool false]) (by simp [results, Tryz.results109, go_sem]) rfl ⟨by rw [HY.out], ?_⟩
  repeat (with_reducible first | exact Below.refl _ _ | refine b_s ?_ _ | refine b_a ?_ _ | refine Below.drew ?_ | refine below_drewN ?_ _)
theorem go_hat (s : ByteArray) (p n : Nat) (c : Int) (given v b : Bool) (w : World) (hs : s.size ≤ 1000) (hp : p ≤ s.size) (hn1 : 1 ≤ n) (hn : n ≤ 99) :
    Calls Tryz.prog 109 #[.string s, .int .i64 p, .agg #[.int .u8 94, .int .u8 c, .int .i64 n, .bool given, .bool v, .bool b]] w fun e w' =>
      e = .returned (.agg #[.int .i64 (Nib.goWay s p 94 c n given v b).1, .int .i64 (Nib.goWay s p 94 c n given v b).2.1, .bool (Nib.goWay s p 94 c n given v b).2.2]) ∧ Below w.heap.size w w' := by
  have hbp := Nib.beg_le s p
  have hfp := Nib.fin_le hp
  have hfg := Nib.fin_ge s p
  have hlp := Nib.lst_in hp
  generalize hx : Nib.goWay s p 94 c n given v b = x
  have HX : Hid (Nib.goWay s p 94 c n given v b = x) := hx
  clear hx
  have HY : Hid (x = ((Nib.frs s p : Int), 0, false)) := by rw [Hid, ← HX.out]; rfl
  clear HX
  go_enter Tryz.func109, Tryz.ntmps109
  go_wp2_with fail
  refine (begin_at s _ p _ hs rfl hp).mono ?_
  rintro e w' ⟨rfl, rfl⟩
  go_wp2_with fail
  refine (end_at s _ p _ hs rfl (by omega)).mono ?_
  rintro e w' ⟨rfl, rfl⟩
  go_wp2_with fail
  refine (first_at s _ p _ hs rfl hp).mono ?_
  rintro e w' ⟨rfl, rfl⟩
  go_wp2
  refine bodyPost_ret (v := .agg #[.int .i64 (Nib.frs s p), .int .i64 0, .bool false]) (by simp [results, Tryz.results109, go_sem]) rfl ⟨by rw [HY.out], ?_⟩
  repeat (with_reducible first | exact Below.refl _ _ | refine b_s ?_ _ | refine b_a ?_ _ | refine Below.drew ?_ | refine below_drewN ?_ _)
end Go.Proofs.YtlendfhehhacpaaGreat
