/- Joined of the texts WalkI1, WalkI2, WalkI3. -/
import Derived.Test.YtlendfhehhacpaaGreatP12
import Derived.Test.YtlendfhehhacpaaGreatP13
import Derived.Test.YtlendfhehhacpaaGreatP14
import Derived.Test.YtlendfhehhacpaaGreatP01
import Derived.Deep.QuietTactic
import Derived.BigQuiet
set_option linter.unusedVariables false
set_option linter.unusedSimpArgs false
set_option maxRecDepth 100000
set_option maxHeartbeats 8000000
namespace Go.Proofs.YtlendfhehhacpaaGreat
open Go.RowKit
theorem go_eol (s : ByteArray) (p n : Nat) (c : Int) (given v b : Bool) (w : World) (hs : s.size ≤ 1000) (hp : p ≤ s.size) (hn1 : 1 ≤ n) (hn : n ≤ 99) :
    Calls Tryz.prog 109 #[.string s, .int .i64 p, .agg #[.int .u8 36, .int .u8 c, .int .i64 n, .bool given, .bool v, .bool b]] w fun e w' =>
      e = .returned (.agg #[.int .i64 (Nib.goWay s p 36 c n given v b).1, .int .i64 (Nib.goWay s p 36 c n given v b).2.1, .bool (Nib.goWay s p 36 c n given v b).2.2]) ∧ Below w.heap.size w w' := by
  have hbp := Nib.beg_le s p
  have hfp := Nib.fin_le hp
  have hfg := Nib.fin_ge s p
  have hlp := Nib.lst_in hp
  generalize hx : Nib.goWay s p 36 c n given v b = x
  have HX : Hid (Nib.goWay s p 36 c n given v b = x) := hx
  clear hx
  have HY : Hid (x = Nib.wayEol s p n) := by rw [Hid, ← HX.out]; rfl
  clear HX
  have hl := Nib.lin_lt hp
  have hls := Nib.lns_le s
  go_enter Tryz.func109, Tryz.ntmps109
  go_wp2_with fail
  refine (begin_at s _ p _ hs rfl hp).mono ?_
  rintro e w' ⟨rfl, rfl⟩
  go_wp2_with fail
  refine (end_at s _ p _ hs rfl (by omega)).mono ?_
  rintro e w' ⟨rfl, rfl⟩
  go_wp2_with fail
  go_quiet ((go_at_call 74; exact Calls.quiet_of_same (line_at s _ p _ hs rfl hp)))
  go_wp2_with fail
  refine (lines_any s _ hs).mono ?_
  rintro e w' ⟨rfl, rfl⟩
  by_cases hge : (Nib.lns s : Int) ≤ (Nib.lin s p : Int) + n - 1
  · have HZ : Hid (x = (0, 0, true)) := by rw [Hid, HY.out, Nib.wayEol, if_pos hge]
    clear HY
    go_wp2_with fail
    refine (fails_any _).mono ?_
    rintro e w1 ⟨rfl, h1⟩
    obtain ⟨hc1, hf1⟩ := bcell h1
    have hz1 := h1.size
    try simp at hz1
    go_wp2
    refine bodyPost_ret (v := .agg #[.int .i64 0, .int .i64 0, .bool true]) (by simp [results, Tryz.results109, go_sem, hc1, hz1]) rfl ⟨by rw [HZ.out], ?_⟩
    repeat (with_reducible first | exact Below.refl _ _ | refine b_s ?_ _ | refine b_a ?_ _ | refine Below.drew ?_ | refine below_drewN ?_ _ | refine b_t ?_ h1)
    all_goals exact (below_drewN (((Below.refl _ _).alloc (Nat.le_refl _) _).alloc (by simp) _) _)
  · have ha := (Nib.att_in (s := s) (m := Nib.lin s p + n - 1) (by omega)).1
    have hla := Nib.lst_le ha
    have HZ : Hid (x = ((Nib.lst s (Nib.att s (Nib.lin s p + n - 1)) : Int), if Nib.emp s (Nib.lst s (Nib.att s (Nib.lin s p + n - 1))) = true then 0 else 1, false)) := by rw [Hid, HY.out, Nib.wayEol, if_neg hge]
    clear HY
    go_wp2_with fail
    refine (at_at s _ (Nib.lin s p + n - 1) _ hs (by omega) (by omega)).mono ?_
    rintro e w' ⟨rfl, rfl⟩
    go_wp2_with fail
    refine (last_at s _ _ _ hs rfl ha).mono ?_
    rintro e w' ⟨rfl, rfl⟩
    go_wp2_with fail
    refine (empty_at s _ _ _ hs rfl hla).mono ?_
    rintro e w' ⟨rfl, rfl⟩
    cases he : Nib.emp s (Nib.lst s (Nib.att s (Nib.lin s p + n - 1))) with
    | true =>
      have HV : Hid (x = ((Nib.lst s (Nib.att s (Nib.lin s p + n - 1)) : Int), 0, false)) := by rw [Hid, HZ.out, he]; rfl
      clear HZ
      go_wp2
      refine bodyPost_ret (v := .agg #[.int .i64 (Nib.lst s (Nib.att s (Nib.lin s p + n - 1))), .int .i64 0, .bool false]) (by simp [results, Tryz.results109, go_sem]) rfl ⟨by rw [HV.out], ?_⟩
      repeat (with_reducible first | exact Below.refl _ _ | refine b_s ?_ _ | refine b_a ?_ _ | refine Below.drew ?_ | refine below_drewN ?_ _)
      all_goals exact (below_drewN (((Below.refl _ _).alloc (Nat.le_refl _) _).alloc (by simp) _) _)
    | false =>
      have HV : Hid (x = ((Nib.lst s (Nib.att s (Nib.lin s p + n - 1)) : Int), 1, false)) := by rw [Hid, HZ.out, he]; rfl
      clear HZ
      go_wp2
      refine bodyPost_ret (v := .agg #[.int .i64 (Nib.lst s (Nib.att s (Nib.lin s p + n - 1))), .int .i64 1, .bool false]) (by simp [results, Tryz.results109, go_sem]) rfl ⟨by rw [HV.out], ?_⟩
      repeat (with_reducible first | exact Below.refl _ _ | refine b_s ?_ _ | refine b_a ?_ _ | refine Below.drew ?_ | refine below_drewN ?_ _)
      all_goals exact (below_drewN (((Below.refl _ _).alloc (Nat.le_refl _) _).alloc (by simp) _) _)
theorem go_j (s : ByteArray) (p n : Nat) (c : Int) (given v b : Bool) (w : World) (hs : s.size ≤ 1000) (hp : p ≤ s.size) (hn1 : 1 ≤ n) (hn : n ≤ 99) :
    Calls Tryz.prog 109 #[.string s, .int .i64 p, .agg #[.int .u8 106, .int .u8 c, .int .i64 n, .bool given, .bool v, .bool b]] w fun e w' =>
      e = .returned (.agg #[.int .i64 (Nib.goWay s p 106 c n given v b).1, .int .i64 (Nib.goWay s p 106 c n given v b).2.1, .bool (Nib.goWay s p 106 c n given v b).2.2]) ∧ Below w.heap.size w w' := by
  have hbp := Nib.beg_le s p
  have hfp := Nib.fin_le hp
  have hfg := Nib.fin_ge s p
  have hlp := Nib.lst_in hp
  generalize hx : Nib.goWay s p 106 c n given v b = x
  have HX : Hid (Nib.goWay s p 106 c n given v b = x) := hx
  clear hx
  have HY : Hid (x = Nib.lineWay s p 106 n given) := by rw [Hid, ← HX.out]; rfl
  clear HX
  go_enter Tryz.func109, Tryz.ntmps109
  go_wp2_with fail
  refine (begin_at s _ p _ hs rfl hp).mono ?_
  rintro e w' ⟨rfl, rfl⟩
  go_wp2_with fail
  refine (end_at s _ p _ hs rfl (by omega)).mono ?_
  rintro e w' ⟨rfl, rfl⟩
  go_wp2_with fail
  refine (goLine_any s p n 106 c given v b _ hs hp hn1 hn (by omega)).mono ?_
  rintro e w1 ⟨rfl, h1⟩
  obtain ⟨hc1, hf1⟩ := bcell h1
  have hz1 := h1.size
  try simp at hz1
  go_wp2
  refine bodyPost_ret (v := .agg #[.int .i64 (Nib.lineWay s p 106 n given).1, .int .i64 (Nib.lineWay s p 106 n given).2.1, .bool (Nib.lineWay s p 106 n given).2.2]) (by simp [results, Tryz.results109, go_sem, hc1, hz1]) rfl ⟨by rw [HY.out], ?_⟩
  repeat (with_reducible first | exact Below.refl _ _ | refine b_s ?_ _ | refine b_a ?_ _ | refine Below.drew ?_ | refine below_drewN ?_ _ | refine b_t ?_ h1)
theorem go_k (s : ByteArray) (p n : Nat) (c : Int) (given v b : Bool) (w : World) (hs : s.size ≤ 1000) (hp : p ≤ s.size) (hn1 : 1 ≤ n) (hn : n ≤ 99) :
    Calls Tryz.prog 109 #[.string s, .int .i64 p, .agg #[.int .u8 107, .int .u8 c, .int .i64 n, .bool given, .bool v, .bool b]] w fun e w' =>
      e = .returned (.agg #[.int .i64 (Nib.goWay s p 107 c n given v b).1, .int .i64 (Nib.goWay s p 107 c n given v b).2.1, .bool (Nib.goWay s p 107 c n given v b).2.2]) ∧ Below w.heap.size w w' := by
  have hbp := Nib.beg_le s p
  have hfp := Nib.fin_le hp
  have hfg := Nib.fin_ge s p
  have hlp := Nib.lst_in hp
  generalize hx : Nib.goWay s p 107 c n given v b = x
  have HX : Hid (Nib.goWay s p 107 c n given v b = x) := hx
  clear hx
  have HY : Hid (x = Nib.lineWay s p 107 n given) := by rw [Hid, ← HX.out]; rfl
  clear HX
  go_enter Tryz.func109, Tryz.ntmps109
  go_wp2_with fail
  refine (begin_at s _ p _ hs rfl hp).mono ?_
  rintro e w' ⟨rfl, rfl⟩
  go_wp2_with fail
  refine (end_at s _ p _ hs rfl (by omega)).mono ?_
  rintro e w' ⟨rfl, rfl⟩
  go_wp2_with fail
  refine (goLine_any s p n 107 c given v b _ hs hp hn1 hn (by omega)).mono ?_
  rintro e w1 ⟨rfl, h1⟩
  obtain ⟨hc1, hf1⟩ := bcell h1
  have hz1 := h1.size
  try simp at hz1
  go_wp2
  refine bodyPost_ret (v := .agg #[.int .i64 (Nib.lineWay s p 107 n given).1, .int .i64 (Nib.lineWay s p 107 n given).2.1, .bool (Nib.lineWay s p 107 n given).2.2]) (by simp [results, Tryz.results109, go_sem, hc1, hz1]) rfl ⟨by rw [HY.out], ?_⟩
  repeat (with_reducible first | exact Below.refl _ _ | refine b_s ?_ _ | refine b_a ?_ _ | refine Below.drew ?_ | refine below_drewN ?_ _ | refine b_t ?_ h1)
theorem go_G (s : ByteArray) (p n : Nat) (c : Int) (given v b : Bool) (w : World) (hs : s.size ≤ 1000) (hp : p ≤ s.size) (hn1 : 1 ≤ n) (hn : n ≤ 99) :
    Calls Tryz.prog 109 #[.string s, .int .i64 p, .agg #[.int .u8 71, .int .u8 c, .int .i64 n, .bool given, .bool v, .bool b]] w fun e w' =>
      e = .returned (.agg #[.int .i64 (Nib.goWay s p 71 c n given v b).1, .int .i64 (Nib.goWay s p 71 c n given v b).2.1, .bool (Nib.goWay s p 71 c n given v b).2.2]) ∧ Below w.heap.size w w' := by
  have hbp := Nib.beg_le s p
  have hfp := Nib.fin_le hp
  have hfg := Nib.fin_ge s p
  have hlp := Nib.lst_in hp
  generalize hx : Nib.goWay s p 71 c n given v b = x
  have HX : Hid (Nib.goWay s p 71 c n given v b = x) := hx
  clear hx
  have HY : Hid (x = Nib.lineWay s p 71 n given) := by rw [Hid, ← HX.out]; rfl
  clear HX
  go_enter Tryz.func109, Tryz.ntmps109
  go_wp2_with fail
  refine (begin_at s _ p _ hs rfl hp).mono ?_
  rintro e w' ⟨rfl, rfl⟩
  go_wp2_with fail
  refine (end_at s _ p _ hs rfl (by omega)).mono ?_
  rintro e w' ⟨rfl, rfl⟩
  go_wp2_with fail
  refine (goLine_any s p n 71 c given v b _ hs hp hn1 hn (by omega)).mono ?_
  rintro e w1 ⟨rfl, h1⟩
  obtain ⟨hc1, hf1⟩ := bcell h1
  have hz1 := h1.size
  try simp at hz1
  go_wp2
  refine bodyPost_ret (v := .agg #[.int .i64 (Nib.lineWay s p 71 n given).1, .int .i64 (Nib.lineWay s p 71 n given).2.1, .bool (Nib.lineWay s p 71 n given).2.2]) (by simp [results, Tryz.results109, go_sem, hc1, hz1]) rfl ⟨by rw [HY.out], ?_⟩
  repeat (with_reducible first | exact Below.refl _ _ | refine b_s ?_ _ | refine b_a ?_ _ | refine Below.drew ?_ | refine below_drewN ?_ _ | refine b_t ?_ h1)
theorem go_gg (s : ByteArray) (p n : Nat) (c : Int) (given v b : Bool) (w : World) (hs : s.size ≤ 1000) (hp : p ≤ s.size) (hn1 : 1 ≤ n) (hn : n ≤ 99) :
    Calls Tryz.prog 109 #[.string s, .int .i64 p, .agg #[.int .u8 103, .int .u8 c, .int .i64 n, .bool given, .bool v, .bool b]] w fun e w' =>
      e = .returned (.agg #[.int .i64 (Nib.goWay s p 103 c n given v b).1, .int .i64 (Nib.goWay s p 103 c n given v b).2.1, .bool (Nib.goWay s p 103 c n given v b).2.2]) ∧ Below w.heap.size w w' := by
  have hbp := Nib.beg_le s p
  have hfp := Nib.fin_le hp
  have hfg := Nib.fin_ge s p
  have hlp := Nib.lst_in hp
  generalize hx : Nib.goWay s p 103 c n given v b = x
  have HX : Hid (Nib.goWay s p 103 c n given v b = x) := hx
  clear hx
  have HY : Hid (x = Nib.lineWay s p 103 n given) := by rw [Hid, ← HX.out]; rfl
  clear HX
  go_enter Tryz.func109, Tryz.ntmps109
  go_wp2_with fail
  refine (begin_at s _ p _ hs rfl hp).mono ?_
  rintro e w' ⟨rfl, rfl⟩
  go_wp2_with fail
  refine (end_at s _ p _ hs rfl (by omega)).mono ?_
  rintro e w' ⟨rfl, rfl⟩
  go_wp2_with fail
  refine (goLine_any s p n 103 c given v b _ hs hp hn1 hn (by omega)).mono ?_
  rintro e w1 ⟨rfl, h1⟩
  obtain ⟨hc1, hf1⟩ := bcell h1
  have hz1 := h1.size
  try simp at hz1
  go_wp2
  refine bodyPost_ret (v := .agg #[.int .i64 (Nib.lineWay s p 103 n given).1, .int .i64 (Nib.lineWay s p 103 n given).2.1, .bool (Nib.lineWay s p 103 n given).2.2]) (by simp [results, Tryz.results109, go_sem, hc1, hz1]) rfl ⟨by rw [HY.out], ?_⟩
  repeat (with_reducible first | exact Below.refl _ _ | refine b_s ?_ _ | refine b_a ?_ _ | refine Below.drew ?_ | refine below_drewN ?_ _ | refine b_t ?_ h1)
theorem go_w (s : ByteArray) (p n : Nat) (c : Int) (given v b : Bool) (w : World) (hs : s.size ≤ 1000) (hp : p ≤ s.size) (hn1 : 1 ≤ n) (hn : n ≤ 99) :
    Calls Tryz.prog 109 #[.string s, .int .i64 p, .agg #[.int .u8 119, .int .u8 c, .int .i64 n, .bool given, .bool v, .bool b]] w fun e w' =>
      e = .returned (.agg #[.int .i64 (Nib.goWay s p 119 c n given v b).1, .int .i64 (Nib.goWay s p 119 c n given v b).2.1, .bool (Nib.goWay s p 119 c n given v b).2.2]) ∧ Below w.heap.size w w' := by
  have hbp := Nib.beg_le s p
  have hfp := Nib.fin_le hp
  have hfg := Nib.fin_ge s p
  have hlp := Nib.lst_in hp
  generalize hx : Nib.goWay s p 119 c n given v b = x
  have HX : Hid (Nib.goWay s p 119 c n given v b = x) := hx
  clear hx
  have HY : Hid (x = ((Nib.wordQ s p n ((119 : Int) == 87) v : Int), (0 : Int), ((Nib.wordQ s p n ((119 : Int) == 87) v : Int) == (p : Int)))) := by rw [Hid, ← HX.out]; rfl
  clear HX
  go_enter Tryz.func109, Tryz.ntmps109
  go_wp2_with fail
  refine (begin_at s _ p _ hs rfl hp).mono ?_
  rintro e w' ⟨rfl, rfl⟩
  go_wp2_with fail
  refine (end_at s _ p _ hs rfl (by omega)).mono ?_
  rintro e w' ⟨rfl, rfl⟩
  go_wp2_with fail
  refine (goWord_any s p n 119 c given v b _ hs hp hn1 hn).mono ?_
  rintro e w1 ⟨rfl, h1⟩
  obtain ⟨hc1, hf1⟩ := bcell h1
  have hz1 := h1.size
  try simp at hz1
  go_wp2
  refine bodyPost_ret (v := .agg #[.int .i64 (((Nib.wordQ s p n ((119 : Int) == 87) v : Int), (0 : Int), ((Nib.wordQ s p n ((119 : Int) == 87) v : Int) == (p : Int)))).1, .int .i64 (((Nib.wordQ s p n ((119 : Int) == 87) v : Int), (0 : Int), ((Nib.wordQ s p n ((119 : Int) == 87) v : Int) == (p : Int)))).2.1, .bool (((Nib.wordQ s p n ((119 : Int) == 87) v : Int), (0 : Int), ((Nib.wordQ s p n ((119 : Int) == 87) v : Int) == (p : Int)))).2.2]) (by simp [results, Tryz.results109, go_sem, hc1, hz1]) rfl ⟨by rw [HY.out], ?_⟩
  repeat (with_reducible first | exact Below.refl _ _ | refine b_s ?_ _ | refine b_a ?_ _ | refine Below.drew ?_ | refine below_drewN ?_ _ | refine b_t ?_ h1)
theorem go_W (s : ByteArray) (p n : Nat) (c : Int) (given v b : Bool) (w : World) (hs : s.size ≤ 1000) (hp : p ≤ s.size) (hn1 : 1 ≤ n) (hn : n ≤ 99) :
    Calls Tryz.prog 109 #[.string s, .int .i64 p, .agg #[.int .u8 87, .int .u8 c, .int .i64 n, .bool given, .bool v, .bool b]] w fun e w' =>
      e = .returned (.agg #[.int .i64 (Nib.goWay s p 87 c n given v b).1, .int .i64 (Nib.goWay s p 87 c n given v b).2.1, .bool (Nib.goWay s p 87 c n given v b).2.2]) ∧ Below w.heap.size w w' := by
  have hbp := Nib.beg_le s p
  have hfp := Nib.fin_le hp
  have hfg := Nib.fin_ge s p
  have hlp := Nib.lst_in hp
  generalize hx : Nib.goWay s p 87 c n given v b = x
  have HX : Hid (Nib.goWay s p 87 c n given v b = x) := hx
  clear hx
  have HY : Hid (x = ((Nib.wordQ s p n ((87 : Int) == 87) v : Int), (0 : Int), ((Nib.wordQ s p n ((87 : Int) == 87) v : Int) == (p : Int)))) := by rw [Hid, ← HX.out]; rfl
  clear HX
  go_enter Tryz.func109, Tryz.ntmps109
  go_wp2_with fail
  refine (begin_at s _ p _ hs rfl hp).mono ?_
  rintro e w' ⟨rfl, rfl⟩
  go_wp2_with fail
  refine (end_at s _ p _ hs rfl (by omega)).mono ?_
  rintro e w' ⟨rfl, rfl⟩
  go_wp2_with fail
  refine (goWord_any s p n 87 c given v b _ hs hp hn1 hn).mono ?_
  rintro e w1 ⟨rfl, h1⟩
  obtain ⟨hc1, hf1⟩ := bcell h1
  have hz1 := h1.size
  try simp at hz1
  go_wp2
  refine bodyPost_ret (v := .agg #[.int .i64 (((Nib.wordQ s p n ((87 : Int) == 87) v : Int), (0 : Int), ((Nib.wordQ s p n ((87 : Int) == 87) v : Int) == (p : Int)))).1, .int .i64 (((Nib.wordQ s p n ((87 : Int) == 87) v : Int), (0 : Int), ((Nib.wordQ s p n ((87 : Int) == 87) v : Int) == (p : Int)))).2.1, .bool (((Nib.wordQ s p n ((87 : Int) == 87) v : Int), (0 : Int), ((Nib.wordQ s p n ((87 : Int) == 87) v : Int) == (p : Int)))).2.2]) (by simp [results, Tryz.results109, go_sem, hc1, hz1]) rfl ⟨by rw [HY.out], ?_⟩
  repeat (with_reducible first | exact Below.refl _ _ | refine b_s ?_ _ | refine b_a ?_ _ | refine Below.drew ?_ | refine below_drewN ?_ _ | refine b_t ?_ h1)
theorem go_b (s : ByteArray) (p n : Nat) (c : Int) (given v b : Bool) (w : World) (hs : s.size ≤ 1000) (hp : p ≤ s.size) (hn1 : 1 ≤ n) (hn : n ≤ 99) :
    Calls Tryz.prog 109 #[.string s, .int .i64 p, .agg #[.int .u8 98, .int .u8 c, .int .i64 n, .bool given, .bool v, .bool b]] w fun e w' =>
      e = .returned (.agg #[.int .i64 (Nib.goWay s p 98 c n given v b).1, .int .i64 (Nib.goWay s p 98 c n given v b).2.1, .bool (Nib.goWay s p 98 c n given v b).2.2]) ∧ Below w.heap.size w w' := by
  have hbp := Nib.beg_le s p
  have hfp := Nib.fin_le hp
  have hfg := Nib.fin_ge s p
  have hlp := Nib.lst_in hp
  generalize hx : Nib.goWay s p 98 c n given v b = x
  have HX : Hid (Nib.goWay s p 98 c n given v b = x) := hx
  clear hx
  have HY : Hid (x = ((Nib.itr (Nib.bstep s false) n p : Int), 0, (p : Int) == 0)) := by rw [Hid, ← HX.out]; rfl
  clear HX
  go_enter Tryz.func109, Tryz.ntmps109
  go_wp2_with fail
  refine (begin_at s _ p _ hs rfl hp).mono ?_
  rintro e w' ⟨rfl, rfl⟩
  go_wp2_with fail
  refine (end_at s _ p _ hs rfl (by omega)).mono ?_
  rintro e w' ⟨rfl, rfl⟩
  go_wp2
  go_loop [15, 16] (fun q i => ∃ k : Nat, k ≤ n ∧ i = .int .i64 k ∧ q = .int .i64 (Nib.itr (Nib.bstep s false) k p)) (fun _ i => n - (intOf i).toNat)
  case atStart => exact ⟨0, by omega, rfl, rfl⟩
  case round =>
    obtain ⟨k, hk, rfl, rfl⟩ := hrel
    have hq := Nib.itr_b_le (s := s) (p := p) (g := false) k
    by_cases hlt : k < n
    · have HS : Hid (Nib.itr (Nib.bstep s false) (k + 1) p = Nib.bstep s false (Nib.itr (Nib.bstep s false) k p)) := rfl
      generalize Nib.itr (Nib.bstep s false) k p = q at *
      go_wp2_with fail
      refine (backStep_any s _ _ _ hs (by omega) (by omega)).mono ?_
      rintro e w' ⟨rfl, rfl⟩
      simp only [Int.toNat_natCast]
      go_wp2
      go_round
      case rel => exact ⟨k + 1, by omega, by go_num, by rw [HS.out]⟩
      case measure => simp [intOf] <;> omega
    · have hkn : k = n := by omega
      subst hkn
      go_wp2
      refine bodyPost_ret (v := .agg #[.int .i64 (Nib.itr (Nib.bstep s false) k p), .int .i64 0, .bool ((p : Int) == 0)]) (by simp [results, Tryz.results109, go_sem]) rfl ⟨by rw [HY.out], ?_⟩
      repeat (with_reducible first | exact Below.refl _ _ | refine b_s ?_ _ | refine b_a ?_ _ | refine Below.drew ?_ | refine below_drewN ?_ _)
theorem go_B (s : ByteArray) (p n : Nat) (c : Int) (given v b : Bool) (w : World) (hs : s.size ≤ 1000) (hp : p ≤ s.size) (hn1 : 1 ≤ n) (hn : n ≤ 99) :
    Calls Tryz.prog 109 #[.string s, .int .i64 p, .agg #[.int .u8 66, .int .u8 c, .int .i64 n, .bool given, .bool v, .bool b]] w fun e w' =>
      e = .returned (.agg #[.int .i64 (Nib.goWay s p 66 c n given v b).1, .int .i64 (Nib.goWay s p 66 c n given v b).2.1, .bool (Nib.goWay s p 66 c n given v b).2.2]) ∧ Below w.heap.size w w' := by
  have hbp := Nib.beg_le s p
  have hfp := Nib.fin_le hp
  have hfg := Nib.fin_ge s p
  have hlp := Nib.lst_in hp
  generalize hx : Nib.goWay s p 66 c n given v b = x
  have HX : Hid (Nib.goWay s p 66 c n given v b = x) := hx
  clear hx
  have HY : Hid (x = ((Nib.itr (Nib.bstep s true) n p : Int), 0, (p : Int) == 0)) := by rw [Hid, ← HX.out]; rfl
  clear HX
  go_enter Tryz.func109, Tryz.ntmps109
  go_wp2_with fail
  refine (begin_at s _ p _ hs rfl hp).mono ?_
  rintro e w' ⟨rfl, rfl⟩
  go_wp2_with fail
  refine (end_at s _ p _ hs rfl (by omega)).mono ?_
  rintro e w' ⟨rfl, rfl⟩
  go_wp2
  go_loop [15, 16] (fun q i => ∃ k : Nat, k ≤ n ∧ i = .int .i64 k ∧ q = .int .i64 (Nib.itr (Nib.bstep s true) k p)) (fun _ i => n - (intOf i).toNat)
  case atStart => exact ⟨0, by omega, rfl, rfl⟩
  case round =>
    obtain ⟨k, hk, rfl, rfl⟩ := hrel
    have hq := Nib.itr_b_le (s := s) (p := p) (g := true) k
    by_cases hlt : k < n
    · have HS : Hid (Nib.itr (Nib.bstep s true) (k + 1) p = Nib.bstep s true (Nib.itr (Nib.bstep s true) k p)) := rfl
      generalize Nib.itr (Nib.bstep s true) k p = q at *
      go_wp2_with fail
      refine (backStep_any s _ _ _ hs (by omega) (by omega)).mono ?_
      rintro e w' ⟨rfl, rfl⟩
      simp only [Int.toNat_natCast]
      go_wp2
      go_round
      case rel => exact ⟨k + 1, by omega, by go_num, by rw [HS.out]⟩
      case measure => simp [intOf] <;> omega
    · have hkn : k = n := by omega
      subst hkn
      go_wp2
      refine bodyPost_ret (v := .agg #[.int .i64 (Nib.itr (Nib.bstep s true) k p), .int .i64 0, .bool ((p : Int) == 0)]) (by simp [results, Tryz.results109, go_sem]) rfl ⟨by rw [HY.out], ?_⟩
      repeat (with_reducible first | exact Below.refl _ _ | refine b_s ?_ _ | refine b_a ?_ _ | refine Below.drew ?_ | refine below_drewN ?_ _)
theorem go_e (s : ByteArray) (p n : Nat) (c : Int) (given v b : Bool) (w : World) (hs : s.size ≤ 1000) (hp : p ≤ s.size) (hn1 : 1 ≤ n) (hn : n ≤ 99) :
    Calls Tryz.prog 109 #[.string s, .int .i64 p, .agg #[.int .u8 101, .int .u8 c, .int .i64 n, .bool given, .bool v, .bool b]] w fun e w' =>
      e = .returned (.agg #[.int .i64 (Nib.goWay s p 101 c n given v b).1, .int .i64 (Nib.goWay s p 101 c n given v b).2.1, .bool (Nib.goWay s p 101 c n given v b).2.2]) ∧ Below w.heap.size w w' := by
  have hbp := Nib.beg_le s p
  have hfp := Nib.fin_le hp
  have hfg := Nib.fin_ge s p
  have hlp := Nib.lst_in hp
  generalize hx : Nib.goWay s p 101 c n given v b = x
  have HX : Hid (Nib.goWay s p 101 c n given v b = x) := hx
  clear hx
  have HY : Hid (x = Nib.endWay s ((101 : Int) == 69) n p) := by rw [Hid, ← HX.out]; rfl
  clear HX
  go_enter Tryz.func109, Tryz.ntmps109
  go_wp2_with fail
  refine (begin_at s _ p _ hs rfl hp).mono ?_
  rintro e w' ⟨rfl, rfl⟩
  go_wp2_with fail
  refine (end_at s _ p _ hs rfl (by omega)).mono ?_
  rintro e w' ⟨rfl, rfl⟩
  go_wp2_with fail
  refine (goEnd_any s p p n 101 c given v b _ hs (by omega) (by omega) hn1 hn).mono ?_
  rintro e w1 ⟨rfl, h1⟩
  obtain ⟨hc1, hf1⟩ := bcell h1
  have hz1 := h1.size
  try simp at hz1
  go_wp2
  refine bodyPost_ret (v := .agg #[.int .i64 (Nib.endWay s ((101 : Int) == 69) n p).1, .int .i64 (Nib.endWay s ((101 : Int) == 69) n p).2.1, .bool (Nib.endWay s ((101 : Int) == 69) n p).2.2]) (by simp [results, Tryz.results109, go_sem, hc1, hz1]) rfl ⟨by rw [HY.out], ?_⟩
  repeat (with_reducible first | exact Below.refl _ _ | refine b_s ?_ _ | refine b_a ?_ _ | refine Below.drew ?_ | refine below_drewN ?_ _ | refine b_t ?_ h1)
theorem go_E (s : ByteArray) (p n : Nat) (c : Int) (given v b : Bool) (w : World) (hs : s.size ≤ 1000) (hp : p ≤ s.size) (hn1 : 1 ≤ n) (hn : n ≤ 99) :
    Calls Tryz.prog 109 #[.string s, .int .i64 p, .agg #[.int .u8 69, .int .u8 c, .int .i64 n, .bool given, .bool v, .bool b]] w fun e w' =>
      e = .returned (.agg #[.int .i64 (Nib.goWay s p 69 c n given v b).1, .int .i64 (Nib.goWay s p 69 c n given v b).2.1, .bool (Nib.goWay s p 69 c n given v b).2.2]) ∧ Below w.heap.size w w' := by
  have hbp := Nib.beg_le s p
  have hfp := Nib.fin_le hp
  have hfg := Nib.fin_ge s p
  have hlp := Nib.lst_in hp
  generalize hx : Nib.goWay s p 69 c n given v b = x
  have HX : Hid (Nib.goWay s p 69 c n given v b = x) := hx
  clear hx
  have HY : Hid (x = Nib.endWay s ((69 : Int) == 69) n p) := by rw [Hid, ← HX.out]; rfl
  clear HX
  go_enter Tryz.func109, Tryz.ntmps109
  go_wp2_with fail
  refine (begin_at s _ p _ hs rfl hp).mono ?_
  rintro e w' ⟨rfl, rfl⟩
  go_wp2_with fail
  refine (end_at s _ p _ hs rfl (by omega)).mono ?_
  rintro e w' ⟨rfl, rfl⟩
  go_wp2_with fail
  refine (goEnd_any s p p n 69 c given v b _ hs (by omega) (by omega) hn1 hn).mono ?_
  rintro e w1 ⟨rfl, h1⟩
  obtain ⟨hc1, hf1⟩ := bcell h1
  have hz1 := h1.size
  try simp at hz1
  go_wp2
  refine bodyPost_ret (v := .agg #[.int .i64 (Nib.endWay s ((69 : Int) == 69) n p).1, .int .i64 (Nib.endWay s ((69 : Int) == 69) n p).2.1, .bool (Nib.endWay s ((69 : Int) == 69) n p).2.2]) (by simp [results, Tryz.results109, go_sem, hc1, hz1]) rfl ⟨by rw [HY.out], ?_⟩
  repeat (with_reducible first | exact Below.refl _ _ | refine b_s ?_ _ | refine b_a ?_ _ | refine Below.drew ?_ | refine below_drewN ?_ _ | refine b_t ?_ h1)
theorem go_f (s : ByteArray) (p n : Nat) (c : Int) (given v b : Bool) (w : World) (hs : s.size ≤ 1000) (hp : p ≤ s.size) (hn1 : 1 ≤ n) (hn : n ≤ 99) :
    Calls Tryz.prog 109 #[.string s, .int .i64 p, .agg #[.int .u8 102, .int .u8 c, .int .i64 n, .bool given, .bool v, .bool b]] w fun e w' =>
      e = .returned (.agg #[.int .i64 (Nib.goWay s p 102 c n given v b).1, .int .i64 (Nib.goWay s p 102 c n given v b).2.1, .bool (Nib.goWay s p 102 c n given v b).2.2]) ∧ Below w.heap.size w w' := by
  have hbp := Nib.beg_le s p
  have hfp := Nib.fin_le hp
  have hfg := Nib.fin_ge s p
  have hlp := Nib.lst_in hp
  generalize hx : Nib.goWay s p 102 c n given v b = x
  have HX : Hid (Nib.goWay s p 102 c n given v b = x) := hx
  clear hx
  have HY : Hid (x = Nib.byteWay s p 102 c n (Nib.frm 102 b)) := by rw [Hid, ← HX.out]; rfl
  clear HX
  go_enter Tryz.func109, Tryz.ntmps109
  go_wp2_with fail
  refine (begin_at s _ p _ hs rfl hp).mono ?_
  rintro e w' ⟨rfl, rfl⟩
  go_wp2_with fail
  refine (end_at s _ p _ hs rfl (by omega)).mono ?_
  rintro e w' ⟨rfl, rfl⟩
  go_wp2_with fail
  refine (goByte_f s p n c given v b _ hs hp hn1 hn).mono ?_
  rintro e w1 ⟨rfl, h1⟩
  obtain ⟨hc1, hf1⟩ := bcell h1
  have hz1 := h1.size
  try simp at hz1
  go_wp2
  refine bodyPost_ret (v := .agg #[.int .i64 (Nib.byteWay s p 102 c n (Nib.frm 102 b)).1, .int .i64 (Nib.byteWay s p 102 c n (Nib.frm 102 b)).2.1, .bool (Nib.byteWay s p 102 c n (Nib.frm 102 b)).2.2]) (by simp [results, Tryz.results109, go_sem, hc1, hz1]) rfl ⟨by rw [HY.out], ?_⟩
  repeat (with_reducible first | exact Below.refl _ _ | refine b_s ?_ _ | refine b_a ?_ _ | refine Below.drew ?_ | refine below_drewN ?_ _ | refine b_t ?_ h1)
theorem go_t (s : ByteArray) (p n : Nat) (c : Int) (given v b : Bool) (w : World) (hs : s.size ≤ 1000) (hp : p ≤ s.size) (hn1 : 1 ≤ n) (hn : n ≤ 99) :
    Calls Tryz.prog 109 #[.string s, .int .i64 p, .agg #[.int .u8 116, .int .u8 c, .int .i64 n, .bool given, .bool v, .bool b]] w fun e w' =>
      e = .returned (.agg #[.int .i64 (Nib.goWay s p 116 c n given v b).1, .int .i64 (Nib.goWay s p 116 c n given v b).2.1, .bool (Nib.goWay s p 116 c n given v b).2.2]) ∧ Below w.heap.size w w' := by
  have hbp := Nib.beg_le s p
  have hfp := Nib.fin_le hp
  have hfg := Nib.fin_ge s p
  have hlp := Nib.lst_in hp
  generalize hx : Nib.goWay s p 116 c n given v b = x
  have HX : Hid (Nib.goWay s p 116 c n given v b = x) := hx
  clear hx
  have HY : Hid (x = Nib.byteWay s p 116 c n (Nib.frm 116 b)) := by rw [Hid, ← HX.out]; rfl
  clear HX
  go_enter Tryz.func109, Tryz.ntmps109
  go_wp2_with fail
  refine (begin_at s _ p _ hs rfl hp).mono ?_
  rintro e w' ⟨rfl, rfl⟩
  go_wp2_with fail
  refine (end_at s _ p _ hs rfl (by omega)).mono ?_
  rintro e w' ⟨rfl, rfl⟩
  go_wp2_with fail
  refine (goByte_t s p n c given v b _ hs hp hn1 hn).mono ?_
  rintro e w1 ⟨rfl, h1⟩
  obtain ⟨hc1, hf1⟩ := bcell h1
  have hz1 := h1.size
  try simp at hz1
  go_wp2
  refine bodyPost_ret (v := .agg #[.int .i64 (Nib.byteWay s p 116 c n (Nib.frm 116 b)).1, .int .i64 (Nib.byteWay s p 116 c n (Nib.frm 116 b)).2.1, .bool (Nib.byteWay s p 116 c n (Nib.frm 116 b)).2.2]) (by simp [results, Tryz.results109, go_sem, hc1, hz1]) rfl ⟨by rw [HY.out], ?_⟩
  repeat (with_reducible first | exact Below.refl _ _ | refine b_s ?_ _ | refine b_a ?_ _ | refine Below.drew ?_ | refine below_drewN ?_ _ | refine b_t ?_ h1)
theorem go_F (s : ByteArray) (p n : Nat) (c : Int) (given v b : Bool) (w : World) (hs : s.size ≤ 1000) (hp : p ≤ s.size) (hn1 : 1 ≤ n) (hn : n ≤ 99) :
    Calls Tryz.prog 109 #[.string s, .int .i64 p, .agg #[.int .u8 70, .int .u8 c, .int .i64 n, .bool given, .bool v, .bool b]] w fun e w' =>
      e = .returned (.agg #[.int .i64 (Nib.goWay s p 70 c n given v b).1, .int .i64 (Nib.goWay s p 70 c n given v b).2.1, .bool (Nib.goWay s p 70 c n given v b).2.2]) ∧ Below w.heap.size w w' := by
  have hbp := Nib.beg_le s p
  have hfp := Nib.fin_le hp
  have hfg := Nib.fin_ge s p
  have hlp := Nib.lst_in hp
  generalize hx : Nib.goWay s p 70 c n given v b = x
  have HX : Hid (Nib.goWay s p 70 c n given v b = x) := hx
  clear hx
  have HY : Hid (x = Nib.byteWay s p 70 c n (Nib.frm 70 b)) := by rw [Hid, ← HX.out]; rfl
  clear HX
  go_enter Tryz.func109, Tryz.ntmps109
  go_wp2_with fail
  refine (begin_at s _ p _ hs rfl hp).mono ?_
  rintro e w' ⟨rfl, rfl⟩
  go_wp2_with fail
  refine (end_at s _ p _ hs rfl (by omega)).mono ?_
  rintro e w' ⟨rfl, rfl⟩
  go_wp2_with fail
  refine (goByte_F s p n c given v b _ hs hp hn1 hn).mono ?_
  rintro e w1 ⟨rfl, h1⟩
  obtain ⟨hc1, hf1⟩ := bcell h1
  have hz1 := h1.size
  try simp at hz1
  go_wp2
  refine bodyPost_ret (v := .agg #[.int .i64 (Nib.byteWay s p 70 c n (Nib.frm 70 b)).1, .int .i64 (Nib.byteWay s p 70 c n (Nib.frm 70 b)).2.1, .bool (Nib.byteWay s p 70 c n (Nib.frm 70 b)).2.2]) (by simp [results, Tryz.results109, go_sem, hc1, hz1]) rfl ⟨by rw [HY.out], ?_⟩
  repeat (with_reducible first | exact Below.refl _ _ | refine b_s ?_ _ | refine b_a ?_ _ | refine Below.drew ?_ | refine below_drewN ?_ _ | refine b_t ?_ h1)
theorem go_T (s : ByteArray) (p n : Nat) (c : Int) (given v b : Bool) (w : World) (hs : s.size ≤ 1000) (hp : p ≤ s.size) (hn1 : 1 ≤ n) (hn : n ≤ 99) :
    Calls Tryz.prog 109 #[.string s, .int .i64 p, .agg #[.int .u8 84, .int .u8 c, .int .i64 n, .bool given, .bool v, .bool b]] w fun e w' =>
      e = .returned (.agg #[.int .i64 (Nib.goWay s p 84 c n given v b).1, .int .i64 (Nib.goWay s p 84 c n given v b).2.1, .bool (Nib.goWay s p 84 c n given v b).2.2]) ∧ Below w.heap.size w w' := by
  have hbp := Nib.beg_le s p
  have hfp := Nib.fin_le hp
  have hfg := Nib.fin_ge s p
  have hlp := Nib.lst_in hp
  generalize hx : Nib.goWay s p 84 c n given v b = x
  have HX : Hid (Nib.goWay s p 84 c n given v b = x) := hx
  clear hx
  have HY : Hid (x = Nib.byteWay s p 84 c n (Nib.frm 84 b)) := by rw [Hid, ← HX.out]; rfl
  clear HX
  go_enter Tryz.func109, Tryz.ntmps109
  go_wp2_with fail
  refine (begin_at s _ p _ hs rfl hp).mono ?_
  rintro e w' ⟨rfl, rfl⟩
  go_wp2_with fail
  refine (end_at s _ p _ hs rfl (by omega)).mono ?_
  rintro e w' ⟨rfl, rfl⟩
  go_wp2_with fail
  refine (goByte_T s p n c given v b _ hs hp hn1 hn).mono ?_
  rintro e w1 ⟨rfl, h1⟩
  obtain ⟨hc1, hf1⟩ := bcell h1
  have hz1 := h1.size
  try simp at hz1
  go_wp2
  refine bodyPost_ret (v := .agg #[.int .i64 (Nib.byteWay s p 84 c n (Nib.frm 84 b)).1, .int .i64 (Nib.byteWay s p 84 c n (Nib.frm 84 b)).2.1, .bool (Nib.byteWay s p 84 c n (Nib.frm 84 b)).2.2]) (by simp [results, Tryz.results109, go_sem, hc1, hz1]) rfl ⟨by rw [HY.out], ?_⟩
  repeat (with_reducible first | exact Below.refl _ _ | refine b_s ?_ _ | refine b_a ?_ _ | refine Below.drew ?_ | refine below_drewN ?_ _ | refine b_t ?_ h1)
theorem go_parD (s : ByteArray) (p n : Nat) (c : Int) (given v b : Bool) (w : World) (hs : s.size ≤ 1000) (hp : p ≤ s.size) (hn1 : 1 ≤ n) (hn : n ≤ 99) :
    Calls Tryz.prog 109 #[.string s, .int .i64 p, .agg #[.int .u8 125, .int .u8 c, .int .i64 n, .bool given, .bool v, .bool b]] w fun e w' =>
      e = .returned (.agg #[.int .i64 (Nib.goWay s p 125 c n given v b).1, .int .i64 (Nib.goWay s p 125 c n given v b).2.1, .bool (Nib.goWay s p 125 c n given v b).2.2]) ∧ Below w.heap.size w w' := by
  have hbp := Nib.beg_le s p
  have hfp := Nib.fin_le hp
  have hfg := Nib.fin_ge s p
  have hlp := Nib.lst_in hp
  generalize hx : Nib.goWay s p 125 c n given v b = x
  have HX : Hid (Nib.goWay s p 125 c n given v b = x) := hx
  clear hx
  have HY : Hid (x = ((Nib.parQ s p n true v : Int), (0 : Int), ((Nib.parQ s p n true v : Int) == (p : Int)))) := by rw [Hid, ← HX.out]; rfl
  clear HX
  go_enter Tryz.func109, Tryz.ntmps109
  go_wp2_with fail
  refine (begin_at s _ p _ hs rfl hp).mono ?_
  rintro e w' ⟨rfl, rfl⟩
  go_wp2_with fail
  refine (end_at s _ p _ hs rfl (by omega)).mono ?_
  rintro e w' ⟨rfl, rfl⟩
  go_wp2_with fail
  refine (goPart_down s p n c given v b _ hs hp hn).mono ?_
  rintro e w1 ⟨rfl, h1⟩
  obtain ⟨hc1, hf1⟩ := bcell h1
  have hz1 := h1.size
  try simp at hz1
  go_wp2
  refine bodyPost_ret (v := .agg #[.int .i64 (((Nib.parQ s p n true v : Int), (0 : Int), ((Nib.parQ s p n true v : Int) == (p : Int)))).1, .int .i64 (((Nib.parQ s p n true v : Int), (0 : Int), ((Nib.parQ s p n true v : Int) == (p : Int)))).2.1, .bool (((Nib.parQ s p n true v : Int), (0 : Int), ((Nib.parQ s p n true v : Int) == (p : Int)))).2.2]) (by simp [results, Tryz.results109, go_sem, hc1, hz1]) rfl ⟨by rw [HY.out], ?_⟩
  repeat (with_reducible first | exact Below.refl _ _ | refine b_s ?_ _ | refine b_a ?_ _ | refine Below.drew ?_ | refine below_drewN ?_ _ | refine b_t ?_ h1)
theorem go_parU (s : ByteArray) (p n : Nat) (c : Int) (given v b : Bool) (w : World) (hs : s.size ≤ 1000) (hp : p ≤ s.size) (hn1 : 1 ≤ n) (hn : n ≤ 99) :
    Calls Tryz.prog 109 #[.string s, .int .i64 p, .agg #[.int .u8 123, .int .u8 c, .int .i64 n, .bool given, .bool v, .bool b]] w fun e w' =>
      e = .returned (.agg #[.int .i64 (Nib.goWay s p 123 c n given v b).1, .int .i64 (Nib.goWay s p 123 c n given v b).2.1, .bool (Nib.goWay s p 123 c n given v b).2.2]) ∧ Below w.heap.size w w' := by
  have hbp := Nib.beg_le s p
  have hfp := Nib.fin_le hp
  have hfg := Nib.fin_ge s p
  have hlp := Nib.lst_in hp
  generalize hx : Nib.goWay s p 123 c n given v b = x
  have HX : Hid (Nib.goWay s p 123 c n given v b = x) := hx
  clear hx
  have HY : Hid (x = ((Nib.parQ s p n false v : Int), (0 : Int), ((Nib.parQ s p n false v : Int) == (p : Int)))) := by rw [Hid, ← HX.out]; rfl
  clear HX
  go_enter Tryz.func109, Tryz.ntmps109
  go_wp2_with fail
  refine (begin_at s _ p _ hs rfl hp).mono ?_
  rintro e w' ⟨rfl, rfl⟩
  go_wp2_with fail
  refine (end_at s _ p _ hs rfl (by omega)).mono ?_
  rintro e w' ⟨rfl, rfl⟩
  go_wp2_with fail
  refine (goPart_up s p n c given v b _ hs hp hn).mono ?_
  rintro e w1 ⟨rfl, h1⟩
  obtain ⟨hc1, hf1⟩ := bcell h1
  have hz1 := h1.size
  try simp at hz1
  go_wp2
  refine bodyPost_ret (v := .agg #[.int .i64 (((Nib.parQ s p n false v : Int), (0 : Int), ((Nib.parQ s p n false v : Int) == (p : Int)))).1, .int .i64 (((Nib.parQ s p n false v : Int), (0 : Int), ((Nib.parQ s p n false v : Int) == (p : Int)))).2.1, .bool (((Nib.parQ s p n false v : Int), (0 : Int), ((Nib.parQ s p n false v : Int) == (p : Int)))).2.2]) (by simp [results, Tryz.results109, go_sem, hc1, hz1]) rfl ⟨by rw [HY.out], ?_⟩
  repeat (with_reducible first | exact Below.refl _ _ | refine b_s ?_ _ | refine b_a ?_ _ | refine Below.drew ?_ | refine below_drewN ?_ _ | refine b_t ?_ h1)
theorem go_pair (s : ByteArray) (p n : Nat) (c : Int) (given v b : Bool) (w : World) (hs : s.size ≤ 1000) (hp : p ≤ s.size) (hn1 : 1 ≤ n) (hn : n ≤ 99) :
    Calls Tryz.prog 109 #[.string s, .int .i64 p, .agg #[.int .u8 37, .int .u8 c, .int .i64 n, .bool given, .bool v, .bool b]] w fun e w' =>
      e = .returned (.agg #[.int .i64 (Nib.goWay s p 37 c n given v b).1, .int .i64 (Nib.goWay s p 37 c n given v b).2.1, .bool (Nib.goWay s p 37 c n given v b).2.2]) ∧ Below w.heap.size w w' := by
  have hbp := Nib.beg_le s p
  have hfp := Nib.fin_le hp
  have hfg := Nib.fin_ge s p
  have hlp := Nib.lst_in hp
  generalize hx : Nib.goWay s p 37 c n given v b = x
  have HX : Hid (Nib.goWay s p 37 c n given v b = x) := hx
  clear hx
  have HY : Hid (x = Nib.pairWay s p) := by rw [Hid, ← HX.out]; rfl
  clear HX
  go_enter Tryz.func109, Tryz.ntmps109
  go_wp2_with fail
  refine (begin_at s _ p _ hs rfl hp).mono ?_
  rintro e w' ⟨rfl, rfl⟩
  go_wp2_with fail
  refine (end_at s _ p _ hs rfl (by omega)).mono ?_
  rintro e w' ⟨rfl, rfl⟩
  go_wp2_with fail
  refine (goPair_any s p _ hs hp).mono ?_
  rintro e w1 ⟨rfl, h1⟩
  obtain ⟨hc1, hf1⟩ := bcell h1
  have hz1 := h1.size
  try simp at hz1
  go_wp2
  refine bodyPost_ret (v := .agg #[.int .i64 (Nib.pairWay s p).1, .int .i64 (Nib.pairWay s p).2.1, .bool (Nib.pairWay s p).2.2]) (by simp [results, Tryz.results109, go_sem, hc1, hz1]) rfl ⟨by rw [HY.out], ?_⟩
  repeat (with_reducible first | exact Below.refl _ _ | refine b_s ?_ _ | refine b_a ?_ _ | refine Below.drew ?_ | refine below_drewN ?_ _ | refine b_t ?_ h1)
end Go.Proofs.YtlendfhehhacpaaGreat
