/- Joined of the texts WalkD, WalkE, WalkF0. -/
import Derived.Test.YtlendfhehhacpaaGreatP11
import Derived.Test.YtlendfhehhacpaaGreatP01
import Derived.Deep.QuietTactic
import Derived.BigQuiet
set_option linter.unusedVariables false
set_option linter.unusedSimpArgs false
set_option maxRecDepth 100000
set_option maxHeartbeats 8000000
namespace Go.Proofs.YtlendfhehhacpaaGreat
open Go.RowKit
theorem fails_any (w : World) :
    Calls Tryz.prog 108 #[] w fun e w' => e = .returned (.agg #[.int .i64 0, .int .i64 0, .bool true]) ∧ Below w.heap.size w w' := by
  go_enter Tryz.func108, Tryz.ntmps108
  go_wp2
  exact bodyPost_ret (v := .agg #[.int .i64 0, .int .i64 0, .bool true]) (by simp [results, Tryz.results108, go_sem]) rfl ⟨rfl, (Below.refl _ _).alloc (Nat.le_refl _) _⟩
theorem goLine_any (s : ByteArray) (p n : Nat) (key c : Int) (given v b : Bool) (w : World) (hs : s.size ≤ 1000) (hp : p ≤ s.size) (hn1 : 1 ≤ n) (hn : n ≤ 99) (hk : key = 106 ∨ key = 107 ∨ key = 71 ∨ key = 103) :
    Calls Tryz.prog 112 #[.string s, .int .i64 p, .agg #[.int .u8 key, .int .u8 c, .int .i64 n, .bool given, .bool v, .bool b]] w fun e w' =>
      e = .returned (.agg #[.int .i64 (Nib.lineWay s p key n given).1, .int .i64 (Nib.lineWay s p key n given).2.1, .bool (Nib.lineWay s p key n given).2.2]) ∧ Below w.heap.size w w' := by
  have hl := Nib.lin_lt hp
  have hls := Nib.lns_le s
  have hbp := Nib.beg_le s p
  generalize hx : Nib.lineWay s p key n given = x
  have HX : Hid (Nib.lineWay s p key n given = x) := hx
  clear hx
  go_enter Tryz.func112, Tryz.ntmps112
  go_wp2_with fail
  refine (line_at s _ p _ hs rfl hp).mono ?_
  rintro e w' ⟨rfl, rfl⟩
  go_wp2_with fail
  refine (lines_any s _ hs).mono ?_
  rintro e w' ⟨rfl, rfl⟩
  by_cases hjk : key = 106 ∨ key = 107
  · have HY : ∃ m : Int, Hid (x = Nib.lineTo s p m) ∧ Hid (key = 106 ∧ m = (Nib.lin s p : Int) + n ∨ key = 107 ∧ m = (Nib.lin s p : Int) - n) := by
      rcases hjk with rfl | rfl
      · exact ⟨_, by rw [Hid, ← HX.out]; rfl, Or.inl ⟨rfl, rfl⟩⟩
      · exact ⟨_, by rw [Hid, ← HX.out]; rfl, Or.inr ⟨rfl, rfl⟩⟩
    obtain ⟨m, HY, HM⟩ := HY
    clear HX hk
    by_cases hm : m < 0 ∨ (Nib.lns s : Int) ≤ m
    · have HZ : Hid (x = (0, 0, true)) := by rw [Hid, HY.out, Nib.lineTo, if_pos hm]
      clear HY
      rcases HM.out with ⟨rfl, rfl⟩ | ⟨rfl, rfl⟩
      all_goals
        clear HM
        go_wp2_with fail
        refine (fails_any _).mono ?_
        rintro e w1 ⟨rfl, h1⟩
        obtain ⟨hc1, hf1⟩ := bcell h1
        have hz1 := h1.size
        try simp at hz1
        go_wp2
        refine bodyPost_ret (v := .agg #[.int .i64 0, .int .i64 0, .bool true]) (by simp [results, Tryz.results112, go_sem, hc1, hz1]) rfl ⟨by rw [HZ.out], ?_⟩
        repeat (with_reducible first | exact Below.refl _ _ | refine b_s ?_ _ | refine b_a ?_ _ | refine Below.drew ?_ | refine below_drewN ?_ _ | refine b_t ?_ h1)
    · obtain ⟨k, hkm⟩ := Int.eq_ofNat_of_zero_le (show 0 ≤ m by omega)
      have hk1 : k < Nib.lns s := by omega
      obtain ⟨ha, _⟩ := Nib.att_in hk1
      have hla := Nib.lst_le ha
      have HZ : Hid (x = (if (Nib.lst s (Nib.att s k) : Int) < (Nib.att s k : Int) + p - Nib.beg s p then (Nib.lst s (Nib.att s k) : Int) else (Nib.att s k : Int) + p - Nib.beg s p, 2, false)) := by
        rw [Hid, HY.out, Nib.lineTo, if_neg hm, hkm, Int.toNat_natCast]
      have HK : Hid (m = (k : Int)) := hkm
      clear HY hkm
      rcases HM.out with ⟨rfl, rfl⟩ | ⟨rfl, rfl⟩
      all_goals
        clear HM
        go_wp2_with fail
        refine (at_at s _ k _ hs HK.out (by omega)).mono ?_
        rintro e w' ⟨rfl, rfl⟩
        go_wp2_with fail
        refine (last_at s _ _ _ hs rfl ha).mono ?_
        rintro e w' ⟨rfl, rfl⟩
        go_wp2_with fail
        refine (begin_at s _ p _ hs rfl hp).mono ?_
        rintro e w' ⟨rfl, rfl⟩
        by_cases hlt : (Nib.lst s (Nib.att s k) : Int) < (Nib.att s k : Int) + p - Nib.beg s p
        · rw [Hid, if_pos hlt] at HZ
          have HZ' : Hid (x = ((Nib.lst s (Nib.att s k) : Int), 2, false)) := HZ
          clear HZ
          go_wp2
          refine bodyPost_ret (v := .agg #[.int .i64 (Nib.lst s (Nib.att s k)), .int .i64 2, .bool false]) (by simp [results, Tryz.results112, go_sem]) rfl ⟨by rw [HZ'.out], ?_⟩
          repeat (with_reducible first | exact Below.refl _ _ | refine b_s ?_ _ | refine b_a ?_ _ | refine Below.drew ?_ | refine below_drewN ?_ _)
        · rw [Hid, if_neg hlt] at HZ
          have HZ' : Hid (x = ((Nib.att s k : Int) + p - Nib.beg s p, 2, false)) := HZ
          clear HZ
          go_wp2
          refine bodyPost_ret (v := .agg #[.int .i64 ((Nib.att s k : Int) + p - Nib.beg s p), .int .i64 2, .bool false]) (by simp [results, Tryz.results112, go_sem]) rfl ⟨by rw [HZ'.out], ?_⟩
          repeat (with_reducible first | exact Below.refl _ _ | refine b_s ?_ _ | refine b_a ?_ _ | refine Below.drew ?_ | refine below_drewN ?_ _)
  · have HY : ∃ m : Int, Hid (x = Nib.lineNo s m) ∧ 0 ≤ m ∧ m ≤ 1000 ∧ Hid (m = if given = true then (n : Int) - 1 else if key = 71 then (Nib.lns s : Int) - 1 else 0) := by
      refine ⟨_, ?_, ?_, ?_, rfl⟩
      · rw [Hid, ← HX.out, Nib.lineWay, if_neg (fun h => hjk (Or.inl h)), if_neg (fun h => hjk (Or.inr h))]
      · have := Nib.lns_pos s; (repeat' split) <;> omega
      · (repeat' split) <;> omega
    obtain ⟨m, HY, hm0, hm1, HM⟩ := HY
    clear HX
    have HZ : ∃ k : Nat, k < Nib.lns s ∧ Hid ((k : Int) = if (Nib.lns s : Int) ≤ m then (Nib.lns s : Int) - 1 else m) ∧ Hid (x = ((Nib.frs s (Nib.att s k) : Int), 2, false)) := by
      have := Nib.lns_pos s
      refine ⟨(if (Nib.lns s : Int) ≤ m then (Nib.lns s : Int) - 1 else m).toNat, by split <;> omega, by rw [Hid]; split <;> omega, by rw [Hid, HY.out]; rfl⟩
    obtain ⟨k, hk1, HK, HZ⟩ := HZ
    obtain ⟨ha, _⟩ := Nib.att_in hk1
    clear HY
    have hkey : key = 71 ∨ key = 103 := by omega
    clear hk hjk
    cases given with
    | true =>
      by_cases hge : (Nib.lns s : Int) ≤ m
      all_goals
        rcases hkey with rfl | rfl
        all_goals
          have HM2 := HM.out
          have HK2 := HK.out
          simp only [if_true, if_false, Bool.false_eq_true, reduceIte, hge, Int.reduceEq] at HM2 HK2
          clear HM HK
          subst HM2
          have HK3 : Hid _ := HK2.symm
          clear HK2
          go_wp2_with fail
          refine (at_at s _ k _ hs HK3.out (by omega)).mono ?_
          rintro e w' ⟨rfl, rfl⟩
          go_wp2_with fail
          refine (first_at s _ _ _ hs rfl ha).mono ?_
          rintro e w' ⟨rfl, rfl⟩
          go_wp2
          refine bodyPost_ret (v := .agg #[.int .i64 (Nib.frs s (Nib.att s k)), .int .i64 2, .bool false]) (by simp [results, Tryz.results112, go_sem]) rfl ⟨by rw [HZ.out], ?_⟩
          repeat (with_reducible first | exact Below.refl _ _ | refine b_s ?_ _ | refine b_a ?_ _ | refine Below.drew ?_ | refine below_drewN ?_ _)
    | false =>
      have hge : ¬ (Nib.lns s : Int) ≤ m := by
        have h1 := HM.out; have h2 := Nib.lns_pos s
        simp only [Bool.false_eq_true, if_false] at h1
        split at h1 <;> omega
      rcases hkey with rfl | rfl
      all_goals
        have HM2 := HM.out
        have HK2 := HK.out
        simp only [if_true, if_false, Bool.false_eq_true, reduceIte, hge, Int.reduceEq] at HM2 HK2
        clear HM HK
        subst HM2
        have HK3 : Hid _ := HK2.symm
        clear HK2
        go_wp2_with fail
        refine (at_at s _ k _ hs HK3.out (by omega)).mono ?_
        rintro e w' ⟨rfl, rfl⟩
        go_wp2_with fail
        refine (first_at s _ _ _ hs rfl ha).mono ?_
        rintro e w' ⟨rfl, rfl⟩
        go_wp2
        refine bodyPost_ret (v := .agg #[.int .i64 (Nib.frs s (Nib.att s k)), .int .i64 2, .bool false]) (by simp [results, Tryz.results112, go_sem]) rfl ⟨by rw [HZ.out], ?_⟩
        repeat (with_reducible first | exact Below.refl _ _ | refine b_s ?_ _ | refine b_a ?_ _ | refine Below.drew ?_ | refine below_drewN ?_ _)
theorem goWord_any (s : ByteArray) (p n : Nat) (key c : Int) (given v b : Bool) (w : World) (hs : s.size ≤ 1000) (hp : p ≤ s.size) (hn1 : 1 ≤ n) (hn : n ≤ 99) :
    Calls Tryz.prog 113 #[.string s, .int .i64 p, .agg #[.int .u8 key, .int .u8 c, .int .i64 n, .bool given, .bool v, .bool b]] w fun e w' =>
      e = .returned (.agg #[.int .i64 (Nib.wordQ s p n (key == 87) v), .int .i64 0, .bool ((Nib.wordQ s p n (key == 87) v : Int) == (p : Int))]) ∧ Below w.heap.size w w' := by
  generalize hx : Nib.wordQ s p n (key == 87) v = x
  have HX : Hid (Nib.wordQ s p n (key == 87) v = x) := hx
  clear hx
  generalize hg : (key == 87) = g at HX
  go_enter Tryz.func113, Tryz.ntmps113
  go_wp2
  go_loop [7, 8, 9] (fun q r i => ∃ k : Nat, k ≤ n ∧ i = .int .i64 k ∧ q = .int .i64 (Nib.itr (Nib.wstep s g) k p) ∧ r = .int .i64 (Nib.itr (Nib.wstep s g) (k - 1) p)) (fun _ _ i => n - (intOf i).toNat)
  case atStart => exact ⟨0, by omega, rfl, rfl, rfl⟩
  case round =>
    obtain ⟨k, hk, rfl, rfl, rfl⟩ := hrel
    have hq := Nib.itr_w_le (g := g) hp k
    have hr := Nib.itr_w_le (g := g) hp (k - 1)
    by_cases hlt : k < n
    · have hc : (key == 87) = g := hg
      clear hr
      go_wp2_with fail
      refine (wordStep_any s _ _ _ hs (by omega) (by omega)).mono ?_
      rintro e w' ⟨rfl, rfl⟩
      simp only [Int.toNat_natCast]
      go_wp2
      go_round
      case rel => exact ⟨k + 1, by omega, by go_num, rfl, rfl⟩
      case measure => simp [intOf] <;> omega
    · have hkn : k = n := by omega
      subst hkn
      clear hg
      cases v with
      | false =>
        have HY : Hid (x = Nib.clm s (Nib.itr (Nib.wstep s g) k p)) := by rw [Hid, ← HX.out, Nib.wordQ]; simp
        clear HX
        go_wp2_with fail
        refine (clamp_at s _ _ _ hs rfl hq).mono ?_
        rintro e w' ⟨rfl, rfl⟩
        go_wp2
        refine bodyPost_ret (v := .agg #[.int .i64 (Nib.clm s (Nib.itr (Nib.wstep s g) k p)), .int .i64 0, .bool ((Nib.clm s (Nib.itr (Nib.wstep s g) k p) : Int) == (p : Int))]) (by simp [results, Tryz.results113, go_sem]) rfl ⟨by rw [HY.out], ?_⟩
        repeat (with_reducible first | exact Below.refl _ _ | refine b_s ?_ _ | refine b_a ?_ _ | refine Below.drew ?_ | refine below_drewN ?_ _)
      | true =>
        have HY : Hid (x = if Nib.lin s (Nib.itr (Nib.wstep s g) k p) ≠ Nib.lin s (Nib.itr (Nib.wstep s g) (k - 1) p) ∧ Nib.fin s (Nib.itr (Nib.wstep s g) (k - 1) p) ≠ Nib.itr (Nib.wstep s g) (k - 1) p then Nib.fin s (Nib.itr (Nib.wstep s g) (k - 1) p) else Nib.itr (Nib.wstep s g) k p) := by rw [Hid, ← HX.out, Nib.wordQ]; simp
        clear HX
        generalize Nib.itr (Nib.wstep s g) k p = q at *
        generalize Nib.itr (Nib.wstep s g) (k - 1) p = r at *
        by_cases h1 : Nib.lin s q = Nib.lin s r
        · have h1' : ((Nib.lin s q : Int) != (Nib.lin s r : Int)) = false := by simp [h1]
          have HZ : Hid (x = q) := by rw [Hid, HY.out, if_neg (fun h => h.1 h1)]
          clear HY h1
          go_wp2_with fail
          refine (line_at s _ q _ hs rfl hq).mono ?_
          rintro e w' ⟨rfl, rfl⟩
          go_wp2_with fail
          refine (line_at s _ r _ hs rfl hr).mono ?_
          rintro e w' ⟨rfl, rfl⟩
          go_wp2
          refine bodyPost_ret (v := .agg #[.int .i64 q, .int .i64 0, .bool ((q : Int) == (p : Int))]) (by simp [results, Tryz.results113, go_sem]) rfl ⟨by rw [HZ.out], ?_⟩
          repeat (with_reducible first | exact Below.refl _ _ | refine b_s ?_ _ | refine b_a ?_ _ | refine Below.drew ?_ | refine below_drewN ?_ _)
        · have h1' : ((Nib.lin s q : Int) != (Nib.lin s r : Int)) = true := by simp; omega
          by_cases h2 : Nib.fin s r = r
          · have h2' : ((Nib.fin s r : Int) != (r : Int)) = false := by simp [h2]
            have HZ : Hid (x = q) := by rw [Hid, HY.out, if_neg (fun h => h.2 h2)]
            clear HY h1 h2
            go_wp2_with fail
            refine (line_at s _ q _ hs rfl hq).mono ?_
            rintro e w' ⟨rfl, rfl⟩
            go_wp2_with fail
            refine (line_at s _ r _ hs rfl hr).mono ?_
            rintro e w' ⟨rfl, rfl⟩
            go_wp2_with fail
            refine (end_at s _ r _ hs rfl (by omega)).mono ?_
            rintro e w' ⟨rfl, rfl⟩
            go_wp2
            refine bodyPost_ret (v := .agg #[.int .i64 q, .int .i64 0, .bool ((q : Int) == (p : Int))]) (by simp [results, Tryz.results113, go_sem]) rfl ⟨by rw [HZ.out], ?_⟩
            repeat (with_reducible first | exact Below.refl _ _ | refine b_s ?_ _ | refine b_a ?_ _ | refine Below.drew ?_ | refine below_drewN ?_ _)
          · have h2' : ((Nib.fin s r : Int) != (r : Int)) = true := by simp; omega
            have HZ : Hid (x = Nib.fin s r) := by rw [Hid, HY.out, if_pos ⟨h1, h2⟩]
            clear HY h1 h2
            go_wp2_with fail
            refine (line_at s _ q _ hs rfl hq).mono ?_
            rintro e w' ⟨rfl, rfl⟩
            go_wp2_with fail
            refine (line_at s _ r _ hs rfl hr).mono ?_
            rintro e w' ⟨rfl, rfl⟩
            go_wp2_with fail
            refine (end_at s _ r _ hs rfl (by omega)).mono ?_
            rintro e w' ⟨rfl, rfl⟩
            go_wp2_with fail
            refine (end_at s _ r _ hs rfl (by omega)).mono ?_
            rintro e w' ⟨rfl, rfl⟩
            go_wp2
            refine bodyPost_ret (v := .agg #[.int .i64 (Nib.fin s r), .int .i64 0, .bool ((Nib.fin s r : Int) == (p : Int))]) (by simp [results, Tryz.results113, go_sem]) rfl ⟨by rw [HZ.out], ?_⟩
            repeat (with_reducible first | exact Below.refl _ _ | refine b_s ?_ _ | refine b_a ?_ _ | refine Below.drew ?_ | refine below_drewN ?_ _)
theorem goEnd_any (s : ByteArray) (p r : Int) (n : Nat) (key c : Int) (given v b : Bool) (w : World) (hs : s.size ≤ 1000) (h0 : -1 ≤ r) (hr : r ≤ s.size) (hn1 : 1 ≤ n) (hn : n ≤ 99) :
    Calls Tryz.prog 104 #[.string s, .int .i64 p, .int .i64 r, .agg #[.int .u8 key, .int .u8 c, .int .i64 n, .bool given, .bool v, .bool b]] w fun e w' =>
      e = .returned (.agg #[.int .i64 (Nib.endWay s (key == 69) n r).1, .int .i64 (Nib.endWay s (key == 69) n r).2.1, .bool (Nib.endWay s (key == 69) n r).2.2]) ∧ Below w.heap.size w w' := by
  generalize hx : Nib.endWay s (key == 69) n r = x
  have HX : Hid (Nib.endWay s (key == 69) n r = x) := hx
  clear hx
  generalize hg : (key == 69) = g at HX
  by_cases hf : Nib.estep s g (r + 1).toNat < 0
  · have HZ : Hid (x = (0, 0, true)) := by rw [Hid, ← HX.out, Nib.endWay, if_pos hf]
    clear HX
    have hn0 : (0 : Int) < n := by omega
    go_enter Tryz.func104, Tryz.ntmps104
    go_wp2
    go_loop [9, 10] (fun q i => q = .int .i64 r ∧ i = .int .i64 0) (fun _ _ => 0)
    case atStart => exact ⟨rfl, rfl⟩
    case round =>
      obtain ⟨rfl, rfl⟩ := hrel
      go_wp2_with fail
      refine (endStep_any s _ _ _ hs (by omega) (by omega)).mono ?_
      rintro e w' ⟨rfl, rfl⟩
      go_wp2_with fail
      refine (fails_any _).mono ?_
      rintro e w1 ⟨rfl, h1⟩
      obtain ⟨hc1, hf1⟩ := bcell h1
      have hz1 := h1.size
      try simp at hz1
      go_wp2
      refine bodyPost_ret (v := .agg #[.int .i64 0, .int .i64 0, .bool true]) (by simp [results, Tryz.results104, go_sem, hc1, hz1]) rfl ⟨by rw [HZ.out], ?_⟩
      repeat (with_reducible first | exact Below.refl _ _ | refine b_s ?_ _ | refine b_a ?_ _ | refine Below.drew ?_ | refine below_drewN ?_ _ | refine b_t ?_ h1)
  · have HZ : Hid (x = (Nib.eitr s g n r, 1, false)) := by rw [Hid, ← HX.out, Nib.endWay, if_neg hf]
    clear HX
    have HF : Hid (0 ≤ Nib.estep s g (r + 1).toNat) := by rw [Hid]; omega
    clear hf
    go_enter Tryz.func104, Tryz.ntmps104
    go_wp2
    go_loop [9, 10] (fun q i => ∃ k : Nat, k ≤ n ∧ i = .int .i64 k ∧ q = .int .i64 (Nib.eitr s g k r)) (fun _ i => n - (intOf i).toNat)
    case atStart => exact ⟨0, by omega, rfl, rfl⟩
    case round =>
      obtain ⟨k, hk, rfl, rfl⟩ := hrel
      have hq := Nib.eitr_lt (g := g) h0 hr k
      by_cases hlt : k < n
      · have HS : Hid (Nib.eitr s g (k + 1) r = if Nib.estep s g (Nib.eitr s g k r + 1).toNat < 0 then Nib.eitr s g k r else Nib.estep s g (Nib.eitr s g k r + 1).toNat) := rfl
        by_cases hneg : Nib.estep s g (Nib.eitr s g k r + 1).toNat < 0
        · have HS' : Hid (Nib.eitr s g (k + 1) r = Nib.eitr s g k r) := by rw [Hid, HS.out, if_pos hneg]
          have hk0 : ((k : Int) == 0) = false := by
            cases k with
            | zero => exact absurd hneg (by have h := HF.out; rw [Nib.eitr]; omega)
            | succ k => simp; omega
          clear HS
          go_wp2_with fail
          refine (endStep_any s _ _ _ hs (by omega) (by omega)).mono ?_
          rintro e w' ⟨rfl, rfl⟩
          go_wp2
          go_round
          case rel => exact ⟨k + 1, by omega, by go_num, by rw [HS'.out]⟩
          case measure => simp [intOf] <;> omega
        · have HS' : Hid (Nib.eitr s g (k + 1) r = Nib.estep s g (Nib.eitr s g k r + 1).toNat) := by rw [Hid, HS.out, if_neg hneg]
          clear HS
          go_wp2_with fail
          refine (endStep_any s _ _ _ hs (by omega) (by omega)).mono ?_
          rintro e w' ⟨rfl, rfl⟩
          go_wp2
          go_round
          case rel => exact ⟨k + 1, by omega, by go_num, by rw [HS'.out]⟩
          case measure => simp [intOf] <;> omega
      · have hkn : k = n := by omega
        subst hkn
        go_wp2
        refine bodyPost_ret (v := .agg #[.int .i64 (Nib.eitr s g k r), .int .i64 1, .bool false]) (by simp [results, Tryz.results104, go_sem]) rfl ⟨by rw [HZ.out], ?_⟩
        repeat (with_reducible first | exact Below.refl _ _ | refine b_s ?_ _ | refine b_a ?_ _ | refine Below.drew ?_ | refine below_drewN ?_ _)
theorem goByte_f (s : ByteArray) (p n : Nat) (c : Int) (given v b : Bool) (w : World) (hs : s.size ≤ 1000) (hp : p ≤ s.size) (hn1 : 1 ≤ n) (hn : n ≤ 99) :
    Calls Tryz.prog 115 #[.string s, .int .i64 p, .agg #[.int .u8 102, .int .u8 c, .int .i64 n, .bool given, .bool v, .bool b]] w fun e w' =>
      e = .returned (.agg #[.int .i64 (Nib.byteWay s p 102 c n (Nib.frm 102 b)).1, .int .i64 (Nib.byteWay s p 102 c n (Nib.frm 102 b)).2.1, .bool (Nib.byteWay s p 102 c n (Nib.frm 102 b)).2.2]) ∧ Below w.heap.size w w' := by
  have hbp := Nib.beg_le s p
  have hfp := Nib.fin_le hp
  have hfg := Nib.fin_ge s p
  cases b with
  | true =>
    generalize hx : Nib.byteWay s p 102 c n (Nib.frm 102 true) = x
    have HX : Hid (x = Nib.resU 0 (Nib.fndU s c (Nib.fin s p) (Nib.fin s p - (p + 1)) n (p + 1))) := by rw [Hid, ← hx]; simp [Nib.byteWay, Nib.frm]
    clear hx
    generalize hfo : Nib.fndU s c (Nib.fin s p) (Nib.fin s p - (p + 1)) n (p + 1) = fo at HX
    have HR : Hid (Nib.fndU s c (Nib.fin s p) (Nib.fin s p - (p + 1)) n (p + 1) = fo) := hfo
    clear hfo
    go_enter Tryz.func115, Tryz.ntmps115
    go_wp2_with fail
    refine (begin_at s _ p _ hs rfl hp).mono ?_
    rintro e w' ⟨rfl, rfl⟩
    go_wp2_with fail
    refine (end_at s _ p _ hs rfl (by omega)).mono ?_
    rintro e w' ⟨rfl, rfl⟩
    go_wp2
    go_loopw [7, 10] (fun nn i wr => ∃ k m d : Nat, p ≤ k ∧ k ≤ 1100 ∧ 1 ≤ m ∧ m ≤ 99 ∧ i = .int .i64 k ∧ nn = .int .i64 m ∧ Hid (Nib.fndU s c (Nib.fin s p) (Nib.fin s p - k) m k = fo) ∧ wr = ((w.alloc (.cells #[.int .u8 102, .int .u8 c, .int .i64 n, .bool given, .bool v, .bool true] 160)).alloc (.cells #[.int .i64 0, .int .i64 0, .bool false] 147)).drewN d) (fun _ i _ => Nib.fin s p - (intOf i).toNat)
    case atStart => exact ⟨p + 1, n, 0, by omega, by omega, hn1, hn, by go_num, rfl, HR, rfl⟩
    case round =>
      clear HR
      obtain ⟨k, m, d, hk1, hk2, hm1, hm2, rfl, rfl, hu, rfl⟩ := hrel
      by_cases hlt : k < Nib.fin s p
      · have hks : k < s.size := by omega
        have hki : (k : Int) < (s.size : Int) := by omega
        have hge : (Nib.beg s p : Int) ≤ (k : Int) := by omega
        have HS : Hid (fo = if Nib.bt s k = c then (if m = 1 then some k else Nib.fndU s c (Nib.fin s p) (Nib.fin s p - (k + 1)) (m - 1) (k + 1)) else Nib.fndU s c (Nib.fin s p) (Nib.fin s p - (k + 1)) m (k + 1)) := by
          rw [Hid, ← hu.out]
          obtain ⟨f, hf⟩ : ∃ f, Nib.fin s p - k = f + 1 := ⟨Nib.fin s p - k - 1, by omega⟩
          rw [hf, show Nib.fin s p - (k + 1) = f by omega, Nib.fndU, if_pos hlt]
        clear hu
        by_cases hc : Nib.bt s k = c
        · rw [Hid, if_pos hc] at HS
          have HC : Hid (c = ((s[k]'hks).toNat : Int)) := by rw [Hid, ← hc, Nib.bt_in hks]
          have hc' : (((s[k]'hks).toNat : Int) == c) = true := by rw [← Nib.bt_in hks]; simp [hc]
          by_cases hm : m = 1
          · have HF : Hid (fo = some k) := by rw [Hid, HS, if_pos hm]
            have hm' : (m : Int) - 1 = 0 := by omega
            clear HS hc
            go_wp2_with fail
            go_quiet (fail)
            go_wp2
            refine bodyPost_ret (v := .agg #[.int .i64 ((k : Int)), .int .i64 1, .bool false]) (by simp [results, Tryz.results115, go_sem]) rfl ⟨by rw [HX.out, HF.out]; simp [Nib.resU, Nib.resD]; try omega, ?_⟩
            repeat (with_reducible first | exact Below.refl _ _ | refine b_s ?_ _ | refine b_a ?_ _ | refine Below.drew ?_ | refine below_drewN ?_ _)
            all_goals exact below_drewN (((Below.refl _ _).alloc (Nat.le_refl _) _).alloc (by simp) _) _
          · have HF : Hid (Nib.fndU s c (Nib.fin s p) (Nib.fin s p - (k + 1)) (m - 1) (k + 1) = fo) := by rw [Hid, HS, if_neg hm]
            have hm' : ((m : Int) - 1 == 0) = false := by simp; omega
            clear HS hc
            go_wp2_with fail
            go_quiet (fail)
            go_wp2
            go_roundw
            case rel => exact ⟨k + 1, m - 1, _, by omega, by omega, by omega, by omega, by go_num, by go_num, HF, rfl⟩
            case measure => simp [intOf] <;> omega
        · rw [Hid, if_neg hc] at HS
          have HF : Hid (Nib.fndU s c (Nib.fin s p) (Nib.fin s p - (k + 1)) m (k + 1) = fo) := HS.symm
          have hc' : (((s[k]'hks).toNat : Int) == c) = false := by rw [← Nib.bt_in hks]; simp [hc]
          have hm' : ((m : Int) == 0) = false := by simp; omega
          clear HS hc
          go_wp2_with fail
          go_quiet (fail)
          go_wp2
          go_roundw
          case rel => exact ⟨k + 1, m, _, by omega, by omega, by omega, by omega, by go_num, rfl, HF, rfl⟩
          case measure => simp [intOf] <;> omega
      · have HF : Hid (fo = none) := by
          rw [Hid, ← hu.out, show Nib.fin s p - k = 0 by omega, Nib.fndU]
        have hge : (Nib.beg s p : Int) ≤ (k : Int) := by omega
        have hlt' : ¬ (k : Int) < (Nib.fin s p : Int) := by omega
        clear hu
        go_wp2_with fail
        refine (fails_any _).mono ?_
        rintro e w1 ⟨rfl, h1⟩
        obtain ⟨hc1, hf1⟩ := bcell h1
        have hz1 := h1.size
        try simp at hz1
        go_wp2
        refine bodyPost_ret (v := .agg #[.int .i64 0, .int .i64 0, .bool true]) (by simp [results, Tryz.results115, go_sem, hc1, hz1]) rfl ⟨by rw [HX.out, HF.out]; simp [Nib.resU, Nib.resD]; try omega, ?_⟩
        repeat (with_reducible first | exact Below.refl _ _ | refine b_s ?_ _ | refine b_a ?_ _ | refine Below.drew ?_ | refine below_drewN ?_ _ | refine b_t ?_ h1)
        all_goals exact below_drewN (((Below.refl _ _).alloc (Nat.le_refl _) _).alloc (by simp) _) _
  | false =>
    generalize hx : Nib.byteWay s p 102 c n (Nib.frm 102 false) = x
    have HX : Hid (x = Nib.resU 0 (Nib.fndU s c (Nib.fin s p) (Nib.fin s p - (p + 1)) n (p + 1))) := by rw [Hid, ← hx]; simp [Nib.byteWay, Nib.frm]
    clear hx
    generalize hfo : Nib.fndU s c (Nib.fin s p) (Nib.fin s p - (p + 1)) n (p + 1) = fo at HX
    have HR : Hid (Nib.fndU s c (Nib.fin s p) (Nib.fin s p - (p + 1)) n (p + 1) = fo) := hfo
    clear hfo
    go_enter Tryz.func115, Tryz.ntmps115
    go_wp2_with fail
    refine (begin_at s _ p _ hs rfl hp).mono ?_
    rintro e w' ⟨rfl, rfl⟩
    go_wp2_with fail
    refine (end_at s _ p _ hs rfl (by omega)).mono ?_
    rintro e w' ⟨rfl, rfl⟩
    go_wp2
    go_loopw [7, 10] (fun nn i wr => ∃ k m d : Nat, p ≤ k ∧ k ≤ 1100 ∧ 1 ≤ m ∧ m ≤ 99 ∧ i = .int .i64 k ∧ nn = .int .i64 m ∧ Hid (Nib.fndU s c (Nib.fin s p) (Nib.fin s p - k) m k = fo) ∧ wr = ((w.alloc (.cells #[.int .u8 102, .int .u8 c, .int .i64 n, .bool given, .bool v, .bool false] 160)).alloc (.cells #[.int .i64 0, .int .i64 0, .bool false] 147)).drewN d) (fun _ i _ => Nib.fin s p - (intOf i).toNat)
    case atStart => exact ⟨p + 1, n, 0, by omega, by omega, hn1, hn, by go_num, rfl, HR, rfl⟩
    case round =>
      clear HR
      obtain ⟨k, m, d, hk1, hk2, hm1, hm2, rfl, rfl, hu, rfl⟩ := hrel
      by_cases hlt : k < Nib.fin s p
      · have hks : k < s.size := by omega
        have hki : (k : Int) < (s.size : Int) := by omega
        have hge : (Nib.beg s p : Int) ≤ (k : Int) := by omega
        have HS : Hid (fo = if Nib.bt s k = c then (if m = 1 then some k else Nib.fndU s c (Nib.fin s p) (Nib.fin s p - (k + 1)) (m - 1) (k + 1)) else Nib.fndU s c (Nib.fin s p) (Nib.fin s p - (k + 1)) m (k + 1)) := by
          rw [Hid, ← hu.out]
          obtain ⟨f, hf⟩ : ∃ f, Nib.fin s p - k = f + 1 := ⟨Nib.fin s p - k - 1, by omega⟩
          rw [hf, show Nib.fin s p - (k + 1) = f by omega, Nib.fndU, if_pos hlt]
        clear hu
        by_cases hc : Nib.bt s k = c
        · rw [Hid, if_pos hc] at HS
          have HC : Hid (c = ((s[k]'hks).toNat : Int)) := by rw [Hid, ← hc, Nib.bt_in hks]
          have hc' : (((s[k]'hks).toNat : Int) == c) = true := by rw [← Nib.bt_in hks]; simp [hc]
          by_cases hm : m = 1
          · have HF : Hid (fo = some k) := by rw [Hid, HS, if_pos hm]
            have hm' : (m : Int) - 1 = 0 := by omega
            clear HS hc
            go_wp2_with fail
            go_quiet (fail)
            go_wp2
            refine bodyPost_ret (v := .agg #[.int .i64 ((k : Int)), .int .i64 1, .bool false]) (by simp [results, Tryz.results115, go_sem]) rfl ⟨by rw [HX.out, HF.out]; simp [Nib.resU, Nib.resD]; try omega, ?_⟩
            repeat (with_reducible first | exact Below.refl _ _ | refine b_s ?_ _ | refine b_a ?_ _ | refine Below.drew ?_ | refine below_drewN ?_ _)
            all_goals exact below_drewN (((Below.refl _ _).alloc (Nat.le_refl _) _).alloc (by simp) _) _
          · have HF : Hid (Nib.fndU s c (Nib.fin s p) (Nib.fin s p - (k + 1)) (m - 1) (k + 1) = fo) := by rw [Hid, HS, if_neg hm]
            have hm' : ((m : Int) - 1 == 0) = false := by simp; omega
            clear HS hc
            go_wp2_with fail
            go_quiet (fail)
            go_wp2
            go_roundw
            case rel => exact ⟨k + 1, m - 1, _, by omega, by omega, by omega, by omega, by go_num, by go_num, HF, rfl⟩
            case measure => simp [intOf] <;> omega
        · rw [Hid, if_neg hc] at HS
          have HF : Hid (Nib.fndU s c (Nib.fin s p) (Nib.fin s p - (k + 1)) m (k + 1) = fo) := HS.symm
          have hc' : (((s[k]'hks).toNat : Int) == c) = false := by rw [← Nib.bt_in hks]; simp [hc]
          have hm' : ((m : Int) == 0) = false := by simp; omega
          clear HS hc
          go_wp2_with fail
          go_quiet (fail)
          go_wp2
          go_roundw
          case rel => exact ⟨k + 1, m, _, by omega, by omega, by omega, by omega, by go_num, rfl, HF, rfl⟩
          case measure => simp [intOf] <;> omega
      · have HF : Hid (fo = none) := by
          rw [Hid, ← hu.out, show Nib.fin s p - k = 0 by omega, Nib.fndU]
        have hge : (Nib.beg s p : Int) ≤ (k : Int) := by omega
        have hlt' : ¬ (k : Int) < (Nib.fin s p : Int) := by omega
        clear hu
        go_wp2_with fail
        refine (fails_any _).mono ?_
        rintro e w1 ⟨rfl, h1⟩
        obtain ⟨hc1, hf1⟩ := bcell h1
        have hz1 := h1.size
        try simp at hz1
        go_wp2
        refine bodyPost_ret (v := .agg #[.int .i64 0, .int .i64 0, .bool true]) (by simp [results, Tryz.results115, go_sem, hc1, hz1]) rfl ⟨by rw [HX.out, HF.out]; simp [Nib.resU, Nib.resD]; try omega, ?_⟩
        repeat (with_reducible first | exact Below.refl _ _ | refine b_s ?_ _ | refine b_a ?_ _ | refine Below.drew ?_ | refine below_drewN ?_ _ | refine b_t ?_ h1)
        all_goals exact below_drewN (((Below.refl _ _).alloc (Nat.le_refl _) _).alloc (by simp) _) _
end Go.Proofs.YtlendfhehhacpaaGreat
