/- A part. -/
import Derived.Test.YtlendfhehhacpaaGreatP20
import Derived.Test.YtlendfhehhacpaaGreatP23
import Derived.Test.YtlendfhehhacpaaGreatP25
set_option linter.unusedVariables false
set_option linter.unusedSimpArgs false
set_option maxRecDepth 100000
set_option maxHeartbeats 8000000
namespace Go.Proofs.YtlendfhehhacpaaGreat
open Go.RowKit
def isPlainWay (key : Int) : Bool := key == 104 || key == 108 || key == 48 || key == 94 || key == 36 || key == 106 || key == 107 || key == 71 || key == 103 || key == 119 || key == 87 || key == 98 || key == 66 || key == 101 || key == 69 || key == 125 || key == 123 || key == 37
theorem sGo_none (s : ByteArray) (p n key : Int) (v c : Bool) (w : World) (hk : isPlainWay key = false) :
  qC 169 #[.int .u8 key, .agg #[.string s, .int .i64 (p), .int .i64 (n), .bool v, .bool c]] w (.tuple #[.agg #[.int .i64 (wayX (((0 : Int), (0 : Int), true))), .int .i64 (wayK (((0 : Int), (0 : Int), true)))], .bool (wayZ (((0 : Int), (0 : Int), true)))]) := by
 rw [wayX_t, wayK_t, wayZ_t]
 simp only [isPlainWay, Bool.or_eq_false_iff] at hk
 obtain ⟨⟨⟨⟨⟨⟨⟨⟨⟨⟨⟨⟨⟨⟨⟨⟨⟨k0, k1⟩, k2⟩, k3⟩, k4⟩, k5⟩, k6⟩, k7⟩, k8⟩, k9⟩, k10⟩, k11⟩, k12⟩, k13⟩, k14⟩, k15⟩, k16⟩, k17⟩ := hk
 go_enter Tryz.func169, Tryz.ntmps169
 go_wp2
 all_goals
  first
   | (exact qV (.tuple #[.agg #[.int .i64 0, .int .i64 0], .bool false]) (by simp [results, Tryz.results169, go_sem]) rfl)
theorem sTurned_102 (ch : Int) (w : World) :
  qC 184 #[.agg #[.int .u8 102, .int .u8 ch]] w (.agg #[.int .u8 70, .int .u8 ch]) := by
 go_enter Tryz.func184, Tryz.ntmps184
 go_wp2
 all_goals
  first
   | (exact qV (.agg #[.int .u8 70, .int .u8 ch]) (by simp [results, Tryz.results184, go_sem]) rfl)
theorem sTurned_70 (ch : Int) (w : World) :
  qC 184 #[.agg #[.int .u8 70, .int .u8 ch]] w (.agg #[.int .u8 102, .int .u8 ch]) := by
 go_enter Tryz.func184, Tryz.ntmps184
 go_wp2
 all_goals
  first
   | (exact qV (.agg #[.int .u8 102, .int .u8 ch]) (by simp [results, Tryz.results184, go_sem]) rfl)
theorem sTurned_116 (ch : Int) (w : World) :
  qC 184 #[.agg #[.int .u8 116, .int .u8 ch]] w (.agg #[.int .u8 84, .int .u8 ch]) := by
 go_enter Tryz.func184, Tryz.ntmps184
 go_wp2
 all_goals
  first
   | (exact qV (.agg #[.int .u8 84, .int .u8 ch]) (by simp [results, Tryz.results184, go_sem]) rfl)
theorem sTurned_84 (ch : Int) (w : World) :
  qC 184 #[.agg #[.int .u8 84, .int .u8 ch]] w (.agg #[.int .u8 116, .int .u8 ch]) := by
 go_enter Tryz.func184, Tryz.ntmps184
 go_wp2
 all_goals
  first
   | (exact qV (.agg #[.int .u8 116, .int .u8 ch]) (by simp [results, Tryz.results184, go_sem]) rfl)
theorem sTurned_0 (ch : Int) (w : World) :
  qC 184 #[.agg #[.int .u8 0, .int .u8 ch]] w (.agg #[.int .u8 0, .int .u8 ch]) := by
 go_enter Tryz.func184, Tryz.ntmps184
 go_wp2
 all_goals
  first
   | (exact qV (.agg #[.int .u8 0, .int .u8 ch]) (by simp [results, Tryz.results184, go_sem]) rfl)
def brkAt (s : ByteArray) (p : Nat) : Int := if Nib.up (Nib.nobr s) (Nib.fin s p) p < Nib.fin s p then ((Nib.up (Nib.nobr s) (Nib.fin s p) p : Nat) : Int) - p else -1
theorem sToPartner_gen (s : ByteArray) (p n : Nat) (v c : Bool) (w : World) (hs : s.size ≤ 1000) (hp : p ≤ s.size)
  (HA : qH 254 #[.string (s.extract p (Nib.fin s p)), .string ⟨#[40, 41, 91, 93, 123, 125]⟩] (.int .i64 (brkAt s p))) :
  qC 212 #[.agg #[.string s, .int .i64 (p), .int .i64 (n), .bool v, .bool c]] w (.tuple #[.agg #[.int .i64 (wayX (Nib.pairWay s p)), .int .i64 (wayK (Nib.pairWay s p))], .bool (wayZ (Nib.pairWay s p))]) := by
 have HL : qH 239 #[.agg #[.string s, .int .i64 (p), .int .i64 (n), .bool v, .bool c]] (.agg #[.int .i64 (Nib.beg s p), .int .i64 (Nib.fin s p)]) := fun ww => sLine_any s p n v c p ww hs rfl hp
 have hfl := Nib.fin_le hp
 have hfg := Nib.fin_ge s p
 have hug : p ≤ Nib.up (Nib.nobr s) (Nib.fin s p) p := Nib.up_ge _ _ _
 have hx0 := ix1 (Nib.beg s p) (Nib.fin s p)
 by_cases hb : Nib.up (Nib.nobr s) (Nib.fin s p) p < Nib.fin s p
 ·have hnb : Nib.prt (Nib.bt s (Nib.up (Nib.nobr s) (Nib.fin s p) p)) ≠ 0 := by
   have h := Nib.up_end (c := Nib.nobr s) (n := Nib.fin s p) (p := p) hb
   generalize Nib.up (Nib.nobr s) (Nib.fin s p) p = U at *
   unfold Nib.nobr at h
   simpa using h
  have HP : qH 255 #[.string s, .int .i64 (Nib.up (Nib.nobr s) (Nib.fin s p) p : Nat)] (.tuple #[.int .i64 (mtI (Nib.mtch s (Nib.up (Nib.nobr s) (Nib.fin s p) p))), .bool (mtB (Nib.mtch s (Nib.up (Nib.nobr s) (Nib.fin s p) p)))]) := fun ww => tPartner_any s _ ww hs qo hnb
  have HW : Hid (Nib.pairWay s p = (Nib.mtch s (Nib.up (Nib.nobr s) (Nib.fin s p) p), 1, decide (Nib.mtch s (Nib.up (Nib.nobr s) (Nib.fin s p) p) < 0))) := by rw [Hid]; unfold Nib.pairWay; rw [if_pos hb]
  have eb : brkAt s p = ((Nib.up (Nib.nobr s) (Nib.fin s p) p : Nat) : Int) - p := by unfold brkAt; rw [if_pos hb]
  rw [eb] at HA
  clear eb hnb
  generalize Nib.pairWay s p = R at *
  generalize Nib.up (Nib.nobr s) (Nib.fin s p) p = U at *
  generalize Nib.mtch s U = M at *
  generalize hF : Nib.fin s p = E at *
  clear hF
  generalize Nib.beg s p = B at *
  have hup : (p : Int) + ((U : Int) - p) = (U : Int) := by omega
  have hge0 : ¬ ((U : Int) - p) < 0 := by omega
  by_cases hM : M < 0
  ·have HZ : Hid (R = (M, 1, true)) := by rw [Hid, HW.out, decide_eq_true hM]
   have e1 : mtI M = 0 := by unfold mtI; rw [if_pos hM]
   have e2 : mtB M = false := by unfold mtB; rw [decide_eq_false qo]
   rw [e1, e2] at HP
   rw [HZ.out, wayX_t, wayK_t, wayZ_t]
   clear HW HZ e1 e2
   go_enter Tryz.func212, Tryz.ntmps212
   have F : Five ((w.alloc (.cells #[.string s, .int .i64 (p), .int .i64 (n), .bool v, .bool c] 206)).alloc (.cells #[.int .i64 0, .int .i64 0] 202)) w.heap.size s p n v c := Five.alloc (Five.new _ _ _ _ _ _ _) _
   have RB : Two ((w.alloc (.cells #[.string s, .int .i64 (p), .int .i64 (n), .bool v, .bool c] 206)).alloc (.cells #[.int .i64 0, .int .i64 0] 202)) (w.heap.size + 1) 0 0 := qN
   go_wp2_with fail
   refine (HL.out _).mono ?_
   rintro r1 w1 ⟨rfl, h1⟩
   obtain ⟨hc1, hf1, hz1⟩ := qb h1
   (try simp at hz1)
   have F1 : Five w1 (w.heap.size) s p n v c := qF
   have ⟨F1_0, F1_1, F1_2, F1_3, F1_4, F1_z, F1_l⟩ := F1
   have RB1 : Two w1 (w.heap.size + 1) (0) (0) := qTw
   have ⟨RB1_0, RB1_1, RB1_z, RB1_l⟩ := RB1
   clear hc1 hf1
   go_wp2_with fail
   refine (HA.out _).mono ?_
   rintro r2 w2 ⟨rfl, h2⟩
   obtain ⟨hc2, hf2, hz2⟩ := qb h2
   (try simp at hz2)
   have F2 : Five w2 (w.heap.size) s p n v c := qF
   have ⟨F2_0, F2_1, F2_2, F2_3, F2_4, F2_z, F2_l⟩ := F2
   have RB2 : Two w2 (w.heap.size + 1) (0) (0) := qTw
   have ⟨RB2_0, RB2_1, RB2_z, RB2_l⟩ := RB2
   clear hc2 hf2
   go_wp2_with fail
   refine (HP.out _).mono ?_
   rintro r3 w3 ⟨rfl, h3⟩
   obtain ⟨hc3, hf3, hz3⟩ := qb h3
   (try simp at hz3)
   have RB3 : Two w3 (w.heap.size + 1) (0) (0) := qTw
   have ⟨RB3_0, RB3_1, RB3_z, RB3_l⟩ := RB3
   clear hc3 hf3
   go_wp2
   all_goals
    first
     | (exact qV (.tuple #[.agg #[.int .i64 0, .int .i64 0], .bool false]) (by simp [results, Tryz.results212, go_sem, RB3_0, RB3_1, RB3_z, RB3_l]) rfl)
  ·have HZ : Hid (R = (M, 1, false)) := by rw [Hid, HW.out, decide_eq_false hM]
   have e1 : mtI M = M := by unfold mtI; rw [if_neg hM]
   have e2 : mtB M = true := by unfold mtB; rw [decide_eq_true qo]
   rw [e1, e2] at HP
   rw [HZ.out, wayX_f, wayK_f, wayZ_f]
   clear HW HZ e1 e2
   go_enter Tryz.func212, Tryz.ntmps212
   have F : Five ((w.alloc (.cells #[.string s, .int .i64 (p), .int .i64 (n), .bool v, .bool c] 206)).alloc (.cells #[.int .i64 0, .int .i64 0] 202)) w.heap.size s p n v c := Five.alloc (Five.new _ _ _ _ _ _ _) _
   have RB : Two ((w.alloc (.cells #[.string s, .int .i64 (p), .int .i64 (n), .bool v, .bool c] 206)).alloc (.cells #[.int .i64 0, .int .i64 0] 202)) (w.heap.size + 1) 0 0 := qN
   go_wp2_with fail
   refine (HL.out _).mono ?_
   rintro r1 w1 ⟨rfl, h1⟩
   obtain ⟨hc1, hf1, hz1⟩ := qb h1
   (try simp at hz1)
   have F1 : Five w1 (w.heap.size) s p n v c := qF
   have ⟨F1_0, F1_1, F1_2, F1_3, F1_4, F1_z, F1_l⟩ := F1
   have RB1 : Two w1 (w.heap.size + 1) (0) (0) := qTw
   have ⟨RB1_0, RB1_1, RB1_z, RB1_l⟩ := RB1
   clear hc1 hf1
   go_wp2_with fail
   refine (HA.out _).mono ?_
   rintro r2 w2 ⟨rfl, h2⟩
   obtain ⟨hc2, hf2, hz2⟩ := qb h2
   (try simp at hz2)
   have F2 : Five w2 (w.heap.size) s p n v c := qF
   have ⟨F2_0, F2_1, F2_2, F2_3, F2_4, F2_z, F2_l⟩ := F2
   have RB2 : Two w2 (w.heap.size + 1) (0) (0) := qTw
   have ⟨RB2_0, RB2_1, RB2_z, RB2_l⟩ := RB2
   clear hc2 hf2
   go_wp2_with fail
   refine (HP.out _).mono ?_
   rintro r3 w3 ⟨rfl, h3⟩
   obtain ⟨hc3, hf3, hz3⟩ := qb h3
   (try simp at hz3)
   have RB3 : Two w3 (w.heap.size + 1) (0) (0) := qTw
   have ⟨RB3_0, RB3_1, RB3_z, RB3_l⟩ := RB3
   clear hc3 hf3
   go_wp2
   all_goals
    first
     | (exact qV (.tuple #[.agg #[.int .i64 M, .int .i64 1], .bool true]) (by simp [results, Tryz.results212, go_sem, RB3_0, RB3_1, RB3_z, RB3_l]) rfl)
 ·have HW : Hid (Nib.pairWay s p = (0, 0, true)) := by rw [Hid]; unfold Nib.pairWay; rw [if_neg hb]
  have eb : brkAt s p = -1 := by unfold brkAt; rw [if_neg hb]
  rw [eb] at HA
  rw [HW.out, wayX_t, wayK_t, wayZ_t]
  clear eb HW hb hug
  generalize hF : Nib.fin s p = E at *
  clear hF
  generalize Nib.beg s p = B at *
  go_enter Tryz.func212, Tryz.ntmps212
  have F : Five ((w.alloc (.cells #[.string s, .int .i64 (p), .int .i64 (n), .bool v, .bool c] 206)).alloc (.cells #[.int .i64 0, .int .i64 0] 202)) w.heap.size s p n v c := Five.alloc (Five.new _ _ _ _ _ _ _) _
  have RB : Two ((w.alloc (.cells #[.string s, .int .i64 (p), .int .i64 (n), .bool v, .bool c] 206)).alloc (.cells #[.int .i64 0, .int .i64 0] 202)) (w.heap.size + 1) 0 0 := qN
  go_wp2_with fail
  refine (HL.out _).mono ?_
  rintro r1 w1 ⟨rfl, h1⟩
  obtain ⟨hc1, hf1, hz1⟩ := qb h1
  (try simp at hz1)
  have F1 : Five w1 (w.heap.size) s p n v c := qF
  have ⟨F1_0, F1_1, F1_2, F1_3, F1_4, F1_z, F1_l⟩ := F1
  have RB1 : Two w1 (w.heap.size + 1) (0) (0) := qTw
  have ⟨RB1_0, RB1_1, RB1_z, RB1_l⟩ := RB1
  clear hc1 hf1
  go_wp2_with fail
  refine (HA.out _).mono ?_
  rintro r2 w2 ⟨rfl, h2⟩
  obtain ⟨hc2, hf2, hz2⟩ := qb h2
  (try simp at hz2)
  have F2 : Five w2 (w.heap.size) s p n v c := qF
  have ⟨F2_0, F2_1, F2_2, F2_3, F2_4, F2_z, F2_l⟩ := F2
  have RB2 : Two w2 (w.heap.size + 1) (0) (0) := qTw
  have ⟨RB2_0, RB2_1, RB2_z, RB2_l⟩ := RB2
  clear hc2 hf2
  go_wp2
  all_goals
   first
    | (exact qV (.tuple #[.agg #[.int .i64 0, .int .i64 0], .bool false]) (by simp [results, Tryz.results212, go_sem, RB2_0, RB2_1, RB2_z, RB2_l]) rfl)
theorem sGo_way (s : ByteArray) (p n : Nat) (key ch : Int) (b : Bool) (w : World) (hs : s.size ≤ 1000) (hp : p ≤ s.size) (hn : n ≤ 99) (hl : p ≤ Nib.lst s p) (hk : isPlainWay key = true)
  (HA : qH 254 #[.string (s.extract p (Nib.fin s p)), .string ⟨#[40, 41, 91, 93, 123, 125]⟩] (.int .i64 (brkAt s p))) :
  qC 169 #[.int .u8 key, .agg #[.string s, .int .i64 (p), .int .i64 (n), .bool false, .bool false]] w (.tuple #[.agg #[.int .i64 (wayX (Nib.goWay s p key ch (max n 1) (decide (0 < n)) false b)), .int .i64 (wayK (Nib.goWay s p key ch (max n 1) (decide (0 < n)) false b))], .bool (wayZ (Nib.goWay s p key ch (max n 1) (decide (0 < n)) false b))]) := by
 simp only [isPlainWay, Bool.or_eq_true, beq_iff_eq] at hk
 rcases hk with ((((((((((((((((h | h) | h) | h) | h) | h) | h) | h) | h) | h) | h) | h) | h) | h) | h) | h) | h) | h
 all_goals subst h
 ·exact sGo_104 s p n false false w _ (fun ww => sInLine_h s p n false false ww hs hp hn)
 ·exact sGo_108 s p n false false w _ (fun ww => sInLine_l s p n false false ww hs hp hn (by simpa [Nib.mostL] using hl))
 ·exact sGo_48 s p n false false w _ (fun ww => sInLine_0 s p n false false ww hs hp)
 ·exact sGo_94 s p n false false w _ (fun ww => sInLine_hat s p n false false ww hs hp)
 ·exact sGo_36 s p n false false w _ (fun ww => sInLine_eol s p n false false ww hs hp hn)
 ·exact sGo_106 s p n false false w _ (fun ww => sToLine_j s p n false false (decide (0 < n)) ww hs hp hn)
 ·exact sGo_107 s p n false false w _ (fun ww => sToLine_k s p n false false (decide (0 < n)) ww hs hp hn)
 ·exact sGo_71 s p n false false w _ (fun ww => sToNumber_any s p n false false 71 ww hs hp hn (Or.inl rfl))
 ·exact sGo_103 s p n false false w _ (fun ww => sToNumber_any s p n false false 103 ww hs hp hn (Or.inr rfl))
 ·exact sGo_119 s p n false false w _ (fun ww => sToWord_plain s p n false ww hs hp hn)
 ·exact sGo_87 s p n false false w _ (fun ww => sToWord_plain s p n true ww hs hp hn)
 ·exact sGo_98 s p n false false w _ (fun ww => sToAhead_any s p n false false false ww hs hp hn)
 ·exact sGo_66 s p n false false w _ (fun ww => sToAhead_any s p n false false true ww hs hp hn)
 ·exact sGo_101 s p n false false w _ (fun ww => sToWordEnd_any s p n false false false ww hs hp hn)
 ·exact sGo_69 s p n false false w _ (fun ww => sToWordEnd_any s p n false false true ww hs hp hn)
 ·exact sGo_125 s p n false false w _ (fun ww => sToPar_any s p n false false true 1 ww hs hp hn rfl)
 ·exact sGo_123 s p n false false w _ (fun ww => sToPar_any s p n false false false (-1) ww hs hp hn rfl)
 ·exact sGo_37 s p n false false w _ (fun ww => sToPartner_gen s p n false false ww hs hp HA)
theorem sFind_go (s : ByteArray) (p n : Nat) (key ch : Int) (given : Bool) (w : World) (hs : s.size ≤ 1000) (hp : p ≤ s.size) (hn : n ≤ 99) (hk : Nib.isFind key = true) :
  qC 167 #[.agg #[.int .u8 key, .int .u8 ch], .agg #[.string s, .int .i64 (p), .int .i64 (n), .bool false, .bool false]] w (.tuple #[.agg #[.int .i64 (wayX (Nib.goWay s p key ch (max n 1) given false false)), .int .i64 (wayK (Nib.goWay s p key ch (max n 1) given false false))], .bool (wayZ (Nib.goWay s p key ch (max n 1) given false false))]) := by
 simp only [Nib.isFind, Bool.or_eq_true, beq_iff_eq] at hk
 have hk' : isFnd key := by unfold isFnd; omega
 refine sFindGo_gen s p n false false key ch w _ (fun ww => ?_)
 have := sGoFrom_any s p n 1 false false key ch ww hs hp hn qo qo hk'
 rcases hk with ((h | h) | h) | h <;> subst h <;> exact this
theorem sFind_again (s : ByteArray) (p n : Nat) (key ch : Int) (given : Bool) (w : World) (hs : s.size ≤ 1000) (hp : p ≤ s.size) (hn : n ≤ 99) (hk : Nib.isFind key = true) :
  qC 183 #[.agg #[.int .u8 key, .int .u8 ch], .agg #[.string s, .int .i64 (p), .int .i64 (n), .bool false, .bool false]] w (.tuple #[.agg #[.int .i64 (wayX (Nib.goWay s p key ch (max n 1) given false true)), .int .i64 (wayK (Nib.goWay s p key ch (max n 1) given false true))], .bool (wayZ (Nib.goWay s p key ch (max n 1) given false true))]) := by
 simp only [Nib.isFind, Bool.or_eq_true, beq_iff_eq] at hk
 have hk' : isFnd key := by unfold isFnd; omega
 refine sFindAgain_gen s p n false false key ch w _ (fun ww => ?_)
 have h1 := sGoFrom_any s p n 1 false false key ch ww hs hp hn qo qo hk'
 have h2 := sGoFrom_any s p n 2 false false key ch ww hs hp hn qo qo hk'
 rcases hk with ((h | h) | h) | h <;> subst h
 ·exact h1
 ·exact h2
 ·exact h1
 ·exact h2
theorem sFind_again0 (s : ByteArray) (p n : Int) (ch : Int) (w : World) :
  qC 183 #[.agg #[.int .u8 0, .int .u8 ch], .agg #[.string s, .int .i64 (p), .int .i64 (n), .bool false, .bool false]] w (.tuple #[.agg #[.int .i64 (wayX (((0 : Int), (0 : Int), true))), .int .i64 (wayK (((0 : Int), (0 : Int), true)))], .bool (wayZ (((0 : Int), (0 : Int), true)))]) :=
 sFindAgain_gen s p n false false 0 ch w _ (fun ww => sGoFrom_none s p n _ ch false false ww)
theorem sTurned_any (key ch : Int) (w : World) (hk : key = 0 ∨ Nib.isFind key = true) :
  qC 184 #[.agg #[.int .u8 key, .int .u8 ch]] w (.agg #[.int .u8 (Nib.flp key), .int .u8 ch]) := by
 simp only [Nib.isFind, Bool.or_eq_true, beq_iff_eq] at hk
 rcases hk with h | ((h | h) | h) | h <;> subst h
 ·exact sTurned_0 ch w
 ·exact sTurned_102 ch w
 ·exact sTurned_116 ch w
 ·exact sTurned_70 ch w
 ·exact sTurned_84 ch w
theorem sGo_wayV (s : ByteArray) (p n : Nat) (key ch : Int) (b : Bool) (w : World) (hs : s.size ≤ 1000) (hp : p ≤ s.size) (hn : n ≤ 99) (hk : isPlainWay key = true)
  (HA : qH 254 #[.string (s.extract p (Nib.fin s p)), .string ⟨#[40, 41, 91, 93, 123, 125]⟩] (.int .i64 (brkAt s p))) :
  qC 169 #[.int .u8 key, .agg #[.string s, .int .i64 (p), .int .i64 (n), .bool true, .bool false]] w (.tuple #[.agg #[.int .i64 (wayX (Nib.goWay s p key ch (max n 1) (decide (0 < n)) true b)), .int .i64 (wayK (Nib.goWay s p key ch (max n 1) (decide (0 < n)) true b))], .bool (wayZ (Nib.goWay s p key ch (max n 1) (decide (0 < n)) true b))]) := by
 simp only [isPlainWay, Bool.or_eq_true, beq_iff_eq] at hk
 rcases hk with ((((((((((((((((h | h) | h) | h) | h) | h) | h) | h) | h) | h) | h) | h) | h) | h) | h) | h) | h) | h
 all_goals subst h
 ·exact sGo_104 s p n true false w _ (fun ww => sInLine_h s p n true false ww hs hp hn)
 ·exact sGo_108 s p n true false w _ (fun ww => sInLine_l s p n true false ww hs hp hn (by simp only [Nib.mostL, if_true]; exact Nib.fin_ge s p))
 ·exact sGo_48 s p n true false w _ (fun ww => sInLine_0 s p n true false ww hs hp)
 ·exact sGo_94 s p n true false w _ (fun ww => sInLine_hat s p n true false ww hs hp)
 ·exact sGo_36 s p n true false w _ (fun ww => sInLine_eol s p n true false ww hs hp hn)
 ·exact sGo_106 s p n true false w _ (fun ww => sToLine_j s p n true false (decide (0 < n)) ww hs hp hn)
 ·exact sGo_107 s p n true false w _ (fun ww => sToLine_k s p n true false (decide (0 < n)) ww hs hp hn)
 ·exact sGo_71 s p n true false w _ (fun ww => sToNumber_any s p n true false 71 ww hs hp hn (Or.inl rfl))
 ·exact sGo_103 s p n true false w _ (fun ww => sToNumber_any s p n true false 103 ww hs hp hn (Or.inr rfl))
 ·exact sGo_119 s p n true false w _ (fun ww => sToWord_verb s p n false ww hs hp hn)
 ·exact sGo_87 s p n true false w _ (fun ww => sToWord_verb s p n true ww hs hp hn)
 ·exact sGo_98 s p n true false w _ (fun ww => sToAhead_any s p n true false false ww hs hp hn)
 ·exact sGo_66 s p n true false w _ (fun ww => sToAhead_any s p n true false true ww hs hp hn)
 ·exact sGo_101 s p n true false w _ (fun ww => sToWordEnd_any s p n true false false ww hs hp hn)
 ·exact sGo_69 s p n true false w _ (fun ww => sToWordEnd_any s p n true false true ww hs hp hn)
 ·exact sGo_125 s p n true false w _ (fun ww => sToPar_any s p n true false true 1 ww hs hp hn rfl)
 ·exact sGo_123 s p n true false w _ (fun ww => sToPar_any s p n true false false (-1) ww hs hp hn rfl)
 ·exact sGo_37 s p n true false w _ (fun ww => sToPartner_gen s p n true false ww hs hp HA)
theorem sFind_goV (s : ByteArray) (p n : Nat) (key ch : Int) (given : Bool) (w : World) (hs : s.size ≤ 1000) (hp : p ≤ s.size) (hn : n ≤ 99) (hk : Nib.isFind key = true) :
  qC 167 #[.agg #[.int .u8 key, .int .u8 ch], .agg #[.string s, .int .i64 (p), .int .i64 (n), .bool true, .bool false]] w (.tuple #[.agg #[.int .i64 (wayX (Nib.goWay s p key ch (max n 1) given true false)), .int .i64 (wayK (Nib.goWay s p key ch (max n 1) given true false))], .bool (wayZ (Nib.goWay s p key ch (max n 1) given true false))]) := by
 simp only [Nib.isFind, Bool.or_eq_true, beq_iff_eq] at hk
 have hk' : isFnd key := by unfold isFnd; omega
 refine sFindGo_gen s p n true false key ch w _ (fun ww => ?_)
 have := sGoFrom_any s p n 1 true false key ch ww hs hp hn qo qo hk'
 rcases hk with ((h | h) | h) | h <;> subst h <;> exact this
theorem sFind_againV (s : ByteArray) (p n : Nat) (key ch : Int) (given : Bool) (w : World) (hs : s.size ≤ 1000) (hp : p ≤ s.size) (hn : n ≤ 99) (hk : Nib.isFind key = true) :
  qC 183 #[.agg #[.int .u8 key, .int .u8 ch], .agg #[.string s, .int .i64 (p), .int .i64 (n), .bool true, .bool false]] w (.tuple #[.agg #[.int .i64 (wayX (Nib.goWay s p key ch (max n 1) given true true)), .int .i64 (wayK (Nib.goWay s p key ch (max n 1) given true true))], .bool (wayZ (Nib.goWay s p key ch (max n 1) given true true))]) := by
 simp only [Nib.isFind, Bool.or_eq_true, beq_iff_eq] at hk
 have hk' : isFnd key := by unfold isFnd; omega
 refine sFindAgain_gen s p n true false key ch w _ (fun ww => ?_)
 have h1 := sGoFrom_any s p n 1 true false key ch ww hs hp hn qo qo hk'
 have h2 := sGoFrom_any s p n 2 true false key ch ww hs hp hn qo qo hk'
 rcases hk with ((h | h) | h) | h <;> subst h
 ·exact h1
 ·exact h2
 ·exact h1
 ·exact h2
theorem sFind_again0V (s : ByteArray) (p n : Int) (ch : Int) (w : World) :
  qC 183 #[.agg #[.int .u8 0, .int .u8 ch], .agg #[.string s, .int .i64 (p), .int .i64 (n), .bool true, .bool false]] w (.tuple #[.agg #[.int .i64 (wayX (((0 : Int), (0 : Int), true))), .int .i64 (wayK (((0 : Int), (0 : Int), true)))], .bool (wayZ (((0 : Int), (0 : Int), true)))]) :=
 sFindAgain_gen s p n true false 0 ch w _ (fun ww => sGoFrom_none s p n _ ch true false ww)
theorem vDo_delete (s : ByteArray) (i j : Nat) (p : Int) (w : World) (hs : s.size ≤ 1000) (h : i ≤ j) (hj : j ≤ s.size) :
  qC 174 #[.int .u8 100, .string s, .agg #[.int .i64 i, .int .i64 j, .bool false], .int .i64 p] w (.tuple #[.string (s.extract 0 i ++ s.extract j s.size), .int .i64 i]) := by
 have HW : qH 218 #[.string s, .agg #[.int .i64 i, .int .i64 j, .bool false]] (.tuple #[.string (s.extract 0 i ++ s.extract j s.size), .int .i64 i]) := fun ww => vWithout_piece s i j ww hs h hj
 generalize s.extract 0 i ++ s.extract j s.size = X at *
 go_enter Tryz.func174, Tryz.ntmps174
 go_wp2_with fail
 refine (HW.out _).mono ?_
 rintro e w1 ⟨rfl, h1⟩
 obtain ⟨hc1, hf1, hz1⟩ := qb h1
 try simp at hz1
 go_wp2
 refine bodyPost_ret (v := .tuple #[.string X, .int .i64 i]) (by simp [results, Tryz.results174, go_sem]) rfl ⟨rfl, ?_⟩
 repeat (with_reducible first | exact Below.refl _ _ | refine b_s ?_ _ | refine b_a ?_ _ | refine Below.drew ?_ | refine below_drewN ?_ _ | refine b_t ?_ h1)
theorem nNew_ok (t : ByteArray) (w : World) (h : t.size ≤ 1000) :
  Calls Tryz.prog 24 #[.string t] w fun e w' => ∃ q b r d m : Nat, e = .returned (.tuple #[.pointer (some ⟨q, 0, none⟩), .int .i64 0]) ∧ w'.cell? ⟨q, 0, none⟩ = some (.pointer (some ⟨b, 0, none⟩)) ∧ NbAt w' b r d (newPg t m) (.slice none 0 0) 0 ⟨#[]⟩ ∧ w'.heap[m]? = some (.map #[] 0) ∧
   w.heap.size ≤ q ∧ w.heap.size ≤ m ∧ w.heap.size ≤ b ∧ w.heap.size ≤ r ∧ w.heap.size ≤ d ∧ q ≠ b ∧ q ≠ r ∧ q ≠ d ∧ m ≠ b ∧ m ≠ r ∧ m ≠ d ∧ q < w'.heap.size ∧ Below w.heap.size w w' := by
 have h' : ¬ (1000 : Int) < (t.size : Int) := by omega
 have HN : Hid (∀ ww, Calls Tryz.prog 33 #[.string t] ww fun e w' => ∃ b r d m : Nat, e = .returned (.pointer (some ⟨b, 0, none⟩)) ∧ NbAt w' b r d (newPg t m) (.slice none 0 0) 0 ⟨#[]⟩ ∧ w'.heap[m]? = some (.map #[] 0) ∧
   ww.heap.size ≤ m ∧ ww.heap.size ≤ b ∧ ww.heap.size ≤ r ∧ ww.heap.size ≤ d ∧ m ≠ b ∧ m ≠ r ∧ m ≠ d ∧ Below ww.heap.size ww w') := fun ww => bNew t ww
 go_enter Tryz.func24, Tryz.ntmps24
 go_wp2_with fail
 refine Calls.mono (HN.out _) ?_
 rintro e w1 ⟨b, r, d, m, rfl, hN, hm, m1, m2, m3, m4, m5, m6, m7, h1⟩
 have HB : Hid (NbAt w1 b r d (newPg t m) (.slice none 0 0) 0 ⟨#[]⟩) := hN
 have HM : Hid (w1.heap[m]? = some (.map #[] 0)) := hm
 have bl := hN.bd.lt
 have rl := hN.rd.bg.lt
 have dl := hN.rd.dk.lt
 have ml : m < w1.heap.size := (Array.getElem?_eq_some_iff.1 hm).1
 have hz1 := h1.size
 clear hN hm
 go_wp2
 go_ret2
 refine ⟨w1.heap.size, b, r, d, m, rfl, by simp, ?_, ?_, by omega, m1, m2, m3, m4, by omega, by omega, by omega, m5, m6, m7, by simp, ?_⟩
 ·exact ⟨HB.out.bd.alloc _, HB.out.rd.alloc _, ⟨_, World.ownsRow_nil _ _ _ _⟩, HB.out.br, HB.out.bd', HB.out.tb, HB.out.tr, HB.out.td⟩
 ·rw [Below.heap_alloc _ _ _ ml]; exact HM.out
 ·repeat exact qB
theorem nType (q b : Nat) (s : ByteArray) (w : World) (N : Int) (Q : World → Prop) (hq : w.cell? ⟨q, 0, none⟩ = some (.pointer (some ⟨b, 0, none⟩)))
  (HT : Hid (∀ ww, ww = w → Calls Tryz.prog 30 #[.pointer (some ⟨b, 0, none⟩), .string s] ww fun e w' => e = .returned (.int .i64 N) ∧ Q w')) :
  Calls Tryz.prog 17 #[.pointer (some ⟨q, 0, none⟩), .string s] w fun e w' => e = .returned (.int .i64 N) ∧ Q w' := by
 go_enter Tryz.func17, Tryz.ntmps17
 go_wp2_with fail
 refine Calls.mono (HT.out _ rfl) ?_
 rintro e w1 ⟨rfl, h1⟩
 have HQ : Hid (Q w1) := h1
 clear h1
 go_wp2
 go_ret
 exact ⟨rfl, HQ.out⟩
theorem nState (q b r d : Nat) (tv : Value) (dg : ByteArray) (p : Pg) (w : World) (hq : w.cell? ⟨q, 0, none⟩ = some (.pointer (some ⟨b, 0, none⟩))) (hb : BdAt w b r d tv dg) (h : RdAt w r d p) :
  qC 18 #[.pointer (some ⟨q, 0, none⟩)] w (.agg #[.string p.t, .int .i64 (p.pl : Nat), .int .i64 (p.anchor : Nat), .int .i64 p.mode, .bool (waits p)]) := by
 have HS : Hid (∀ ww, BdAt ww b r d tv dg → RdAt ww r d p → qC 31 #[.pointer (some ⟨b, 0, none⟩)] ww (.agg #[.string p.t, .int .i64 (p.pl : Nat), .int .i64 (p.anchor : Nat), .int .i64 p.mode, .bool (waits p)])) := fun ww h1 h2 => bState b r d tv dg p ww h1 h2
 generalize waits p = N at *
 have ql : q < w.heap.size := World.block_lt_of_cell? w ⟨q, 0, none⟩ hq
 have l1 : q < w.heap.size + 1 := by omega
 go_enter Tryz.func18, Tryz.ntmps18
 go_wp2_with fail
 refine Calls.mono (HS.out _ (hb.alloc _) (h.alloc _)) ?_
 rintro e w1 ⟨rfl, h1⟩
 obtain ⟨hc1, hf1, hz1⟩ := qb h1
 simp at hz1
 have e0 := fun o => hc1 w.heap.size o qi
 have e1 := fun o => hf1 w.heap.size o qi
 clear hc1 hf1
 go_wp2
 exact qV (.agg #[.string p.t, .int .i64 (p.pl : Nat), .int .i64 (p.anchor : Nat), .int .i64 p.mode, .bool N]) (by simp [results, Tryz.results18, go_sem, e0]) rfl
theorem RgAt.new {w : World} {m k : Nat} (h : w.heap[m]? = some (.map #[] k)) : RgAt w m (fun _ => .agg #[.string ⟨#[]⟩, .bool false]) :=
 ⟨#[], k, h, by simp [RgOk], fun d => by simp [rgFind, rgVal]⟩
theorem RgAt.look {w : World} {m : Nat} {f : Int → Value} (h : RgAt w m f) (c : Int) : (Instr.lookup 90 (.map (some m)) (.int .u8 c) false).run Tryz.prog w = .ok (f c) w := by
 obtain ⟨es, k, h1, h2, h3⟩ := h.out
 rw [rg_look m k c es w h1 h2, h3]
theorem bRegister_at (b r d m : Nat) (tv : Value) (dg : ByteArray) (p : Pg) (c : Int) (f : Int → Value) (t : ByteArray) (l : Bool) (w : World) (hb : BdAt w b r d tv dg) (h : RdAt w r d p) (hm : p.regs = .map (some m)) (hg : RgAt w m f) (hf : f c = .agg #[.string t, .bool l]) :
  qC 32 #[.pointer (some ⟨b, 0, none⟩), .int .u8 c] w (.tuple #[.string t, .bool l]) := by
 have c4 := h.dk.c4
 rw [hm] at c4
 have b0 := hb.c0
 have r0 := h.bg.c0
 have bl := hb.lt
 have rl := h.bg.lt
 have dl := h.dk.lt
 have l1 : d < w.heap.size + 1 := by omega
 have l2 : r < w.heap.size + 1 := by omega
 have l3 : b < w.heap.size + 1 := by omega
 clear hb h
 have hlk := hg.look c
 rw [hf] at hlk
 clear hg hf
 go_enter Tryz.func32, Tryz.ntmps32
 go_wp2_with fail
 go_region_held3 (fun ww => ww.cell? ⟨w.heap.size, 0, none⟩ = some (.string t) ∧ ww.cell? ⟨w.heap.size, 1, none⟩ = some (.bool l)) (exact qK) (fail)
 go_wp2
 go_ret2
 refine ⟨rfl, ?_⟩
 repeat exact qB
theorem nRegister_at (q b r d m : Nat) (tv : Value) (dg : ByteArray) (p : Pg) (c : Int) (f : Int → Value) (t : ByteArray) (l : Bool) (w : World) (hq : w.cell? ⟨q, 0, none⟩ = some (.pointer (some ⟨b, 0, none⟩))) (hb : BdAt w b r d tv dg) (h : RdAt w r d p) (hm : p.regs = .map (some m)) (hg : RgAt w m f) (hf : f c = .agg #[.string t, .bool l]) :
  qC 20 #[.pointer (some ⟨q, 0, none⟩), .int .u8 c] w (.tuple #[.string t, .bool l]) := by
 have HS : Hid (∀ ww, ww = w → qC 32 #[.pointer (some ⟨b, 0, none⟩), .int .u8 c] ww (.tuple #[.string t, .bool l])) := fun ww h1 => by subst h1; exact bRegister_at b r d m tv dg p c f t l ww hb h hm hg hf
 clear hb h hm hg hf
 go_enter Tryz.func20, Tryz.ntmps20
 go_wp2_with fail
 refine Calls.mono (HS.out _ rfl) ?_
 rintro e w1 ⟨rfl, h1⟩
 go_wp2
 go_ret2
 exact ⟨rfl, h1⟩
def AnyOk : Prop := ∀ (s : ByteArray) (p : Nat), s.size ≤ 1000 → p ≤ s.size →
 qH 254 #[.string (s.extract p (Nib.fin s p)), .string ⟨#[40, 41, 91, 93, 123, 125]⟩] (.int .i64 (brkAt s p))
theorem press_endS {σ : Type} (b r d : Nat) (p : Pg) (key : Int) (O : σ → Int) (T : σ → ByteArray) (A : World → Prop) (B C D E : σ → World → Prop) (w : World) (hA : A w) (pA : HasB A b r d p) (pB : ∀ s ww, B s ww → ∃ tv dg, BdAt ww b r d tv dg)
  (pC : ∀ s ww, C s ww → ∃ tv dg p2, BdAt ww b r d tv dg ∧ RdAt ww r d p2 ∧ ¬ p2.mode = 1) (pD : ∀ s ww, D s ww → ∃ tv dg p2, BdAt ww b r d tv dg ∧ RdAt ww r d p2 ∧ p2.t = T s)
  (pE : ∀ s ww, E s ww → (∃ tv dg, BdAt ww b r d tv dg) ∧ ww.cell? ⟨r, 0, none⟩ = some (.pointer (some ⟨d, 0, none⟩)) ∧ ww.cell? ⟨d, 0, none⟩ = some (.string (T s))) (fD : ∀ s ww, D s ww → D s ww.drew)
  (HT : Hid (∀ ww, A ww → Calls Tryz.prog 46 #[.pointer (some ⟨b, 0, none⟩), .int .u8 key] ww fun e w' => ∃ s, e = .returned (.int .i64 (O s)) ∧ ¬ O s = 0 ∧ B s w'))
  (HK : Hid (∀ s, GivesT 47 #[.pointer (some ⟨b, 1, none⟩), .int .u8 key, .int .i64 p.mode] (B s) (C s)))
  (HE : Hid (∀ s, GivesT 48 #[.pointer (some ⟨b, 1, none⟩), .int .i64 (O s)] (C s) (D s)))
  (HH : Hid (∀ s, GivesT 49 #[.pointer (some ⟨d, 5, none⟩), .string (T s)] (D s) (E s))) :
  Calls Tryz.prog 38 #[.pointer (some ⟨b, 0, none⟩), .int .u8 key] w fun e w' => ∃ s, e = .returned (.int .i64 (O s)) ∧ E s w' := by
 obtain ⟨⟨tv, dg, HB⟩, HR⟩ := pA w hA
 have b0 := HB.c0
 have r0 := HR.bg.c0
 have d3 := HR.dk.c3
 have bl := HB.lt
 have rl := HR.bg.lt
 have dl := HR.dk.lt
 have pB' : Hid (∀ s ww, B s ww → ∃ tv dg, BdAt ww b r d tv dg) := pB
 have pC' : Hid (∀ s ww, C s ww → ∃ tv dg p2, BdAt ww b r d tv dg ∧ RdAt ww r d p2 ∧ ¬ p2.mode = 1) := pC
 have pD' : Hid (∀ s ww, D s ww → ∃ tv dg p2, BdAt ww b r d tv dg ∧ RdAt ww r d p2 ∧ p2.t = T s) := pD
 have pE' : Hid (∀ s ww, E s ww → (∃ tv dg, BdAt ww b r d tv dg) ∧ ww.cell? ⟨r, 0, none⟩ = some (.pointer (some ⟨d, 0, none⟩)) ∧ ww.cell? ⟨d, 0, none⟩ = some (.string (T s))) := pE
 clear pB pA pC pD pE
 go_enter Tryz.func38, Tryz.ntmps38
 go_wp2_with fail
 refine Calls.mono (HT.out _ hA) ?_
 rintro e w1 ⟨s, rfl, hO, h1⟩
 obtain ⟨tv1, dg1, B1⟩ := pB'.out s w1 h1
 have bl1 := B1.lt
 have hQ : Hid (∃ z, z = O s) := ⟨_, rfl⟩
 have HK1 := HK.out s
 have HE1 := HE.out s
 have HH1 := HH.out s
 generalize hOs : O s = Q at *
 generalize hTs : T s = X at *
 have hO' : (Q == 0) = false := by simp [hO]
 have hO2 : (Q != 0) = true := by simp [hO]
 clear hQ hO
 go_wp2_with fail
 refine Calls.mono (HK1.out _ h1) ?_
 rintro e w2 ⟨rfl, h2⟩
 obtain ⟨tv2, dg2, p2, B2, R2, hm⟩ := pC'.out s w2 h2
 have hm' : (p2.mode != 1) = true := by simp [hm]
 have hm2 : (p2.mode == 1) = false := by simp [hm]
 have e0 := B2.c0
 have e1 := R2.bg.c0
 have e2 := R2.dk.c3
 have bl2 := B2.lt
 clear h1 hm
 go_wp2_with fail
 refine Calls.mono (HE1.out _ h2) ?_
 rintro e w3 ⟨rfl, h3⟩
 obtain ⟨tv3, dg3, p3, B3, R3, ht⟩ := pD'.out s w3 h3
 have g0 := B3.c0
 have g1 := R3.bg.c0
 have g2 := R3.dk.c0
 rw [ht, hTs] at g2
 have D3 := fD s w3 h3
 clear h2 h3
 go_wp2_with fail
 go_region_held3 (fun ww => ww.cell? ⟨b, 0, none⟩ = some (.pointer (some ⟨r, 0, none⟩)) ∧ ww.cell? ⟨r, 0, none⟩ = some (.pointer (some ⟨d, 0, none⟩)) ∧ ww.cell? ⟨d, 0, none⟩ = some (.string X)) ((refine ⟨?_, ?_, ?_⟩ <;> (first | (go_simp; done) | (with_reducible assumption)))) ((go_at_call 49; refine Calls.mono (HH1.out _ D3) ?_; rintro e4 w4 ⟨rfl, h4⟩; obtain ⟨⟨tv4, dg4, B4⟩, q1, q2⟩ := pE'.out s w4 h4; rw [hTs] at q2; have q0 := B4.c0; have HE4 : Hid (E s w4) := h4; clear h4))
 go_wp2
 go_ret
 refine ⟨s, ?_, HE4.out⟩
 rw [hOs]
 rfl
end Go.Proofs.YtlendfhehhacpaaGreat
