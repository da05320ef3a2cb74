/- A part. -/
import Derived.Test.YtlendfhehhacpaaGreatP13
import Derived.Test.YtlendfhehhacpaaGreatP21
set_option linter.unusedVariables false
set_option linter.unusedSimpArgs false
set_option maxRecDepth 100000
set_option maxHeartbeats 8000000
namespace Go.Proofs.YtlendfhehhacpaaGreat
open Go.RowKit
theorem qt1 {P : Prop} (h : P := by
  go_enter Tryz.func169, Tryz.ntmps169
  have RB : Two ((w.alloc (.cells #[.string s, .int .i64 (p), .int .i64 (n), .bool v, .bool c] 206)).alloc (.cells #[.int .i64 0, .int .i64 0] 202)) (w.heap.size + 1) 0 0 := qN
  go_wp2_with fail
  refine (HG.out _).mono ?_
  rintro r1 w1 ⟨rfl, h1⟩
  obtain ⟨hc1, hf1, hz1⟩ := qb h1
  (try simp at hz1)
  have RB1 : Two w1 (w.heap.size + 1) (0) (0) := qTw
  have ⟨RB1_0, RB1_1, RB1_z, RB1_l⟩ := RB1
  clear hc1 hf1
  go_wp2
  all_goals
   first
    | (exact qV (.tuple #[.agg #[.int .i64 (wayX (R)), .int .i64 (wayK (R))], .bool (wayZ (R))]) (by simp [results, Tryz.results169, go_sem, RB1_0, RB1_1, RB1_z, RB1_l]) rfl)
 ) : P := h
theorem sGo_104 (s : ByteArray) (p n : Int) (v c : Bool) (w : World) (R : Int × Int × Bool)
  (HG : qH 205 #[.agg #[.string s, .int .i64 (p), .int .i64 (n), .bool v, .bool c], .int .u8 104] (.tuple #[.agg #[.int .i64 (wayX (R)), .int .i64 (wayK (R))], .bool (wayZ (R))])) :
  qC 169 #[.int .u8 104, .agg #[.string s, .int .i64 (p), .int .i64 (n), .bool v, .bool c]] w (.tuple #[.agg #[.int .i64 (wayX (R)), .int .i64 (wayK (R))], .bool (wayZ (R))]) := by
 exact qt1
theorem sGo_108 (s : ByteArray) (p n : Int) (v c : Bool) (w : World) (R : Int × Int × Bool)
  (HG : qH 205 #[.agg #[.string s, .int .i64 (p), .int .i64 (n), .bool v, .bool c], .int .u8 108] (.tuple #[.agg #[.int .i64 (wayX (R)), .int .i64 (wayK (R))], .bool (wayZ (R))])) :
  qC 169 #[.int .u8 108, .agg #[.string s, .int .i64 (p), .int .i64 (n), .bool v, .bool c]] w (.tuple #[.agg #[.int .i64 (wayX (R)), .int .i64 (wayK (R))], .bool (wayZ (R))]) := by
 exact qt1
theorem sGo_48 (s : ByteArray) (p n : Int) (v c : Bool) (w : World) (R : Int × Int × Bool)
  (HG : qH 205 #[.agg #[.string s, .int .i64 (p), .int .i64 (n), .bool v, .bool c], .int .u8 48] (.tuple #[.agg #[.int .i64 (wayX (R)), .int .i64 (wayK (R))], .bool (wayZ (R))])) :
  qC 169 #[.int .u8 48, .agg #[.string s, .int .i64 (p), .int .i64 (n), .bool v, .bool c]] w (.tuple #[.agg #[.int .i64 (wayX (R)), .int .i64 (wayK (R))], .bool (wayZ (R))]) := by
 exact qt1
theorem sGo_94 (s : ByteArray) (p n : Int) (v c : Bool) (w : World) (R : Int × Int × Bool)
  (HG : qH 205 #[.agg #[.string s, .int .i64 (p), .int .i64 (n), .bool v, .bool c], .int .u8 94] (.tuple #[.agg #[.int .i64 (wayX (R)), .int .i64 (wayK (R))], .bool (wayZ (R))])) :
  qC 169 #[.int .u8 94, .agg #[.string s, .int .i64 (p), .int .i64 (n), .bool v, .bool c]] w (.tuple #[.agg #[.int .i64 (wayX (R)), .int .i64 (wayK (R))], .bool (wayZ (R))]) := by
 exact qt1
theorem sGo_36 (s : ByteArray) (p n : Int) (v c : Bool) (w : World) (R : Int × Int × Bool)
  (HG : qH 205 #[.agg #[.string s, .int .i64 (p), .int .i64 (n), .bool v, .bool c], .int .u8 36] (.tuple #[.agg #[.int .i64 (wayX (R)), .int .i64 (wayK (R))], .bool (wayZ (R))])) :
  qC 169 #[.int .u8 36, .agg #[.string s, .int .i64 (p), .int .i64 (n), .bool v, .bool c]] w (.tuple #[.agg #[.int .i64 (wayX (R)), .int .i64 (wayK (R))], .bool (wayZ (R))]) := by
 exact qt1
theorem sGo_106 (s : ByteArray) (p n : Int) (v c : Bool) (w : World) (R : Int × Int × Bool)
  (HG : qH 206 #[.agg #[.string s, .int .i64 (p), .int .i64 (n), .bool v, .bool c], .int .u8 106] (.tuple #[.agg #[.int .i64 (wayX (R)), .int .i64 (wayK (R))], .bool (wayZ (R))])) :
  qC 169 #[.int .u8 106, .agg #[.string s, .int .i64 (p), .int .i64 (n), .bool v, .bool c]] w (.tuple #[.agg #[.int .i64 (wayX (R)), .int .i64 (wayK (R))], .bool (wayZ (R))]) := by
 exact qt1
theorem sGo_107 (s : ByteArray) (p n : Int) (v c : Bool) (w : World) (R : Int × Int × Bool)
  (HG : qH 206 #[.agg #[.string s, .int .i64 (p), .int .i64 (n), .bool v, .bool c], .int .u8 107] (.tuple #[.agg #[.int .i64 (wayX (R)), .int .i64 (wayK (R))], .bool (wayZ (R))])) :
  qC 169 #[.int .u8 107, .agg #[.string s, .int .i64 (p), .int .i64 (n), .bool v, .bool c]] w (.tuple #[.agg #[.int .i64 (wayX (R)), .int .i64 (wayK (R))], .bool (wayZ (R))]) := by
 exact qt1
theorem sGo_71 (s : ByteArray) (p n : Int) (v c : Bool) (w : World) (R : Int × Int × Bool)
  (HG : qH 207 #[.agg #[.string s, .int .i64 (p), .int .i64 (n), .bool v, .bool c], .int .u8 71] (.tuple #[.agg #[.int .i64 (wayX (R)), .int .i64 (wayK (R))], .bool (wayZ (R))])) :
  qC 169 #[.int .u8 71, .agg #[.string s, .int .i64 (p), .int .i64 (n), .bool v, .bool c]] w (.tuple #[.agg #[.int .i64 (wayX (R)), .int .i64 (wayK (R))], .bool (wayZ (R))]) := by
 exact qt1
theorem sGo_103 (s : ByteArray) (p n : Int) (v c : Bool) (w : World) (R : Int × Int × Bool)
  (HG : qH 207 #[.agg #[.string s, .int .i64 (p), .int .i64 (n), .bool v, .bool c], .int .u8 103] (.tuple #[.agg #[.int .i64 (wayX (R)), .int .i64 (wayK (R))], .bool (wayZ (R))])) :
  qC 169 #[.int .u8 103, .agg #[.string s, .int .i64 (p), .int .i64 (n), .bool v, .bool c]] w (.tuple #[.agg #[.int .i64 (wayX (R)), .int .i64 (wayK (R))], .bool (wayZ (R))]) := by
 exact qt1
theorem sGo_119 (s : ByteArray) (p n : Int) (v c : Bool) (w : World) (R : Int × Int × Bool)
  (HG : qH 208 #[.agg #[.string s, .int .i64 (p), .int .i64 (n), .bool v, .bool c], .bool false] (.tuple #[.agg #[.int .i64 (wayX (R)), .int .i64 (wayK (R))], .bool (wayZ (R))])) :
  qC 169 #[.int .u8 119, .agg #[.string s, .int .i64 (p), .int .i64 (n), .bool v, .bool c]] w (.tuple #[.agg #[.int .i64 (wayX (R)), .int .i64 (wayK (R))], .bool (wayZ (R))]) := by
 exact qt1
theorem sGo_87 (s : ByteArray) (p n : Int) (v c : Bool) (w : World) (R : Int × Int × Bool)
  (HG : qH 208 #[.agg #[.string s, .int .i64 (p), .int .i64 (n), .bool v, .bool c], .bool true] (.tuple #[.agg #[.int .i64 (wayX (R)), .int .i64 (wayK (R))], .bool (wayZ (R))])) :
  qC 169 #[.int .u8 87, .agg #[.string s, .int .i64 (p), .int .i64 (n), .bool v, .bool c]] w (.tuple #[.agg #[.int .i64 (wayX (R)), .int .i64 (wayK (R))], .bool (wayZ (R))]) := by
 exact qt1
theorem sGo_98 (s : ByteArray) (p n : Int) (v c : Bool) (w : World) (R : Int × Int × Bool)
  (HG : qH 209 #[.agg #[.string s, .int .i64 (p), .int .i64 (n), .bool v, .bool c], .bool false] (.tuple #[.agg #[.int .i64 (wayX (R)), .int .i64 (wayK (R))], .bool (wayZ (R))])) :
  qC 169 #[.int .u8 98, .agg #[.string s, .int .i64 (p), .int .i64 (n), .bool v, .bool c]] w (.tuple #[.agg #[.int .i64 (wayX (R)), .int .i64 (wayK (R))], .bool (wayZ (R))]) := by
 exact qt1
theorem sGo_66 (s : ByteArray) (p n : Int) (v c : Bool) (w : World) (R : Int × Int × Bool)
  (HG : qH 209 #[.agg #[.string s, .int .i64 (p), .int .i64 (n), .bool v, .bool c], .bool true] (.tuple #[.agg #[.int .i64 (wayX (R)), .int .i64 (wayK (R))], .bool (wayZ (R))])) :
  qC 169 #[.int .u8 66, .agg #[.string s, .int .i64 (p), .int .i64 (n), .bool v, .bool c]] w (.tuple #[.agg #[.int .i64 (wayX (R)), .int .i64 (wayK (R))], .bool (wayZ (R))]) := by
 exact qt1
theorem sGo_101 (s : ByteArray) (p n : Int) (v c : Bool) (w : World) (R : Int × Int × Bool)
  (HG : qH 210 #[.agg #[.string s, .int .i64 (p), .int .i64 (n), .bool v, .bool c], .bool false] (.tuple #[.agg #[.int .i64 (wayX (R)), .int .i64 (wayK (R))], .bool (wayZ (R))])) :
  qC 169 #[.int .u8 101, .agg #[.string s, .int .i64 (p), .int .i64 (n), .bool v, .bool c]] w (.tuple #[.agg #[.int .i64 (wayX (R)), .int .i64 (wayK (R))], .bool (wayZ (R))]) := by
 exact qt1
theorem sGo_69 (s : ByteArray) (p n : Int) (v c : Bool) (w : World) (R : Int × Int × Bool)
  (HG : qH 210 #[.agg #[.string s, .int .i64 (p), .int .i64 (n), .bool v, .bool c], .bool true] (.tuple #[.agg #[.int .i64 (wayX (R)), .int .i64 (wayK (R))], .bool (wayZ (R))])) :
  qC 169 #[.int .u8 69, .agg #[.string s, .int .i64 (p), .int .i64 (n), .bool v, .bool c]] w (.tuple #[.agg #[.int .i64 (wayX (R)), .int .i64 (wayK (R))], .bool (wayZ (R))]) := by
 exact qt1
theorem sGo_125 (s : ByteArray) (p n : Int) (v c : Bool) (w : World) (R : Int × Int × Bool)
  (HG : qH 211 #[.agg #[.string s, .int .i64 (p), .int .i64 (n), .bool v, .bool c], .int .i64 1] (.tuple #[.agg #[.int .i64 (wayX (R)), .int .i64 (wayK (R))], .bool (wayZ (R))])) :
  qC 169 #[.int .u8 125, .agg #[.string s, .int .i64 (p), .int .i64 (n), .bool v, .bool c]] w (.tuple #[.agg #[.int .i64 (wayX (R)), .int .i64 (wayK (R))], .bool (wayZ (R))]) := by
 exact qt1
theorem sGo_123 (s : ByteArray) (p n : Int) (v c : Bool) (w : World) (R : Int × Int × Bool)
  (HG : qH 211 #[.agg #[.string s, .int .i64 (p), .int .i64 (n), .bool v, .bool c], .int .i64 (-1)] (.tuple #[.agg #[.int .i64 (wayX (R)), .int .i64 (wayK (R))], .bool (wayZ (R))])) :
  qC 169 #[.int .u8 123, .agg #[.string s, .int .i64 (p), .int .i64 (n), .bool v, .bool c]] w (.tuple #[.agg #[.int .i64 (wayX (R)), .int .i64 (wayK (R))], .bool (wayZ (R))]) := by
 exact qt1
theorem sGo_37 (s : ByteArray) (p n : Int) (v c : Bool) (w : World) (R : Int × Int × Bool)
  (HG : qH 212 #[.agg #[.string s, .int .i64 (p), .int .i64 (n), .bool v, .bool c]] (.tuple #[.agg #[.int .i64 (wayX (R)), .int .i64 (wayK (R))], .bool (wayZ (R))])) :
  qC 169 #[.int .u8 37, .agg #[.string s, .int .i64 (p), .int .i64 (n), .bool v, .bool c]] w (.tuple #[.agg #[.int .i64 (wayX (R)), .int .i64 (wayK (R))], .bool (wayZ (R))]) := by
 exact qt1
def isPlainWay (key : Int) : Bool := key == 104 || key == 108 || key == 48 || key == 94 || key == 36 || key == 106 || key == 107 || key == 71 || key == 103 || key == 119 || key == 87 || key == 98 || key == 66 || key == 101 || key == 69 || key == 125 || key == 123 || key == 37
theorem sGo_none (s : ByteArray) (p n key : Int) (v c : Bool) (w : World) (hk : isPlainWay key = false) :
  qC 169 #[.int .u8 key, .agg #[.string s, .int .i64 (p), .int .i64 (n), .bool v, .bool c]] w (.tuple #[.agg #[.int .i64 (wayX (((0 : Int), (0 : Int), true))), .int .i64 (wayK (((0 : Int), (0 : Int), true)))], .bool (wayZ (((0 : Int), (0 : Int), true)))]) := by
 rw [wayX_t, wayK_t, wayZ_t]
 simp only [isPlainWay, Bool.or_eq_false_iff] at hk
 obtain ⟨⟨⟨⟨⟨⟨⟨⟨⟨⟨⟨⟨⟨⟨⟨⟨⟨k0, k1⟩, k2⟩, k3⟩, k4⟩, k5⟩, k6⟩, k7⟩, k8⟩, k9⟩, k10⟩, k11⟩, k12⟩, k13⟩, k14⟩, k15⟩, k16⟩, k17⟩ := hk
 go_enter Tryz.func169, Tryz.ntmps169
 go_wp2
 all_goals
  first
   | (exact qV (.tuple #[.agg #[.int .i64 0, .int .i64 0], .bool false]) (by simp [results, Tryz.results169, go_sem]) rfl)
theorem sTurned_102 (ch : Int) (w : World) :
  qC 184 #[.agg #[.int .u8 102, .int .u8 ch]] w (.agg #[.int .u8 70, .int .u8 ch]) := by
 go_enter Tryz.func184, Tryz.ntmps184
 go_wp2
 all_goals
  first
   | (exact qV (.agg #[.int .u8 70, .int .u8 ch]) (by simp [results, Tryz.results184, go_sem]) rfl)
theorem sTurned_70 (ch : Int) (w : World) :
  qC 184 #[.agg #[.int .u8 70, .int .u8 ch]] w (.agg #[.int .u8 102, .int .u8 ch]) := by
 go_enter Tryz.func184, Tryz.ntmps184
 go_wp2
 all_goals
  first
   | (exact qV (.agg #[.int .u8 102, .int .u8 ch]) (by simp [results, Tryz.results184, go_sem]) rfl)
theorem sTurned_116 (ch : Int) (w : World) :
  qC 184 #[.agg #[.int .u8 116, .int .u8 ch]] w (.agg #[.int .u8 84, .int .u8 ch]) := by
 go_enter Tryz.func184, Tryz.ntmps184
 go_wp2
 all_goals
  first
   | (exact qV (.agg #[.int .u8 84, .int .u8 ch]) (by simp [results, Tryz.results184, go_sem]) rfl)
theorem sTurned_84 (ch : Int) (w : World) :
  qC 184 #[.agg #[.int .u8 84, .int .u8 ch]] w (.agg #[.int .u8 116, .int .u8 ch]) := by
 go_enter Tryz.func184, Tryz.ntmps184
 go_wp2
 all_goals
  first
   | (exact qV (.agg #[.int .u8 116, .int .u8 ch]) (by simp [results, Tryz.results184, go_sem]) rfl)
theorem sTurned_0 (ch : Int) (w : World) :
  qC 184 #[.agg #[.int .u8 0, .int .u8 ch]] w (.agg #[.int .u8 0, .int .u8 ch]) := by
 go_enter Tryz.func184, Tryz.ntmps184
 go_wp2
 all_goals
  first
   | (exact qV (.agg #[.int .u8 0, .int .u8 ch]) (by simp [results, Tryz.results184, go_sem]) rfl)
def brkAt (s : ByteArray) (p : Nat) : Int := if Nib.up (Nib.nobr s) (Nib.fin s p) p < Nib.fin s p then ((Nib.up (Nib.nobr s) (Nib.fin s p) p : Nat) : Int) - p else -1
theorem sToPartner_gen (s : ByteArray) (p n : Nat) (v c : Bool) (w : World) (hs : s.size ≤ 1000) (hp : p ≤ s.size)
  (HA : qH 254 #[.string (s.extract p (Nib.fin s p)), .string ⟨#[40, 41, 91, 93, 123, 125]⟩] (.int .i64 (brkAt s p))) :
  qC 212 #[.agg #[.string s, .int .i64 (p), .int .i64 (n), .bool v, .bool c]] w (.tuple #[.agg #[.int .i64 (wayX (Nib.pairWay s p)), .int .i64 (wayK (Nib.pairWay s p))], .bool (wayZ (Nib.pairWay s p))]) := by
 have HL : qH 239 #[.agg #[.string s, .int .i64 (p), .int .i64 (n), .bool v, .bool c]] (.agg #[.int .i64 (Nib.beg s p), .int .i64 (Nib.fin s p)]) := fun ww => sLine_any s p n v c p ww hs rfl hp
 have hfl := Nib.fin_le hp
 have hfg := Nib.fin_ge s p
 have hug : p ≤ Nib.up (Nib.nobr s) (Nib.fin s p) p := Nib.up_ge _ _ _
 have hx0 := ix1 (Nib.beg s p) (Nib.fin s p)
 by_cases hb : Nib.up (Nib.nobr s) (Nib.fin s p) p < Nib.fin s p
 ·have hnb : Nib.prt (Nib.bt s (Nib.up (Nib.nobr s) (Nib.fin s p) p)) ≠ 0 := by
   have h := Nib.up_end (c := Nib.nobr s) (n := Nib.fin s p) (p := p) hb
   generalize Nib.up (Nib.nobr s) (Nib.fin s p) p = U at *
   unfold Nib.nobr at h
   simpa using h
  have HP : qH 255 #[.string s, .int .i64 (Nib.up (Nib.nobr s) (Nib.fin s p) p : Nat)] (.tuple #[.int .i64 (mtI (Nib.mtch s (Nib.up (Nib.nobr s) (Nib.fin s p) p))), .bool (mtB (Nib.mtch s (Nib.up (Nib.nobr s) (Nib.fin s p) p)))]) := fun ww => tPartner_any s _ ww hs qo hnb
  have HW : Hid (Nib.pairWay s p = (Nib.mtch s (Nib.up (Nib.nobr s) (Nib.fin s p) p), 1, decide (Nib.mtch s (Nib.up (Nib.nobr s) (Nib.fin s p) p) < 0))) := by rw [Hid]; unfold Nib.pairWay; rw [if_pos hb]
  have eb : brkAt s p = ((Nib.up (Nib.nobr s) (Nib.fin s p) p : Nat) : Int) - p := by unfold brkAt; rw [if_pos hb]
  rw [eb] at HA
  clear eb hnb
  generalize Nib.pairWay s p = R at *
  generalize Nib.up (Nib.nobr s) (Nib.fin s p) p = U at *
  generalize Nib.mtch s U = M at *
  generalize hF : Nib.fin s p = E at *
  clear hF
  generalize Nib.beg s p = B at *
  have hup : (p : Int) + ((U : Int) - p) = (U : Int) := by omega
  have hge0 : ¬ ((U : Int) - p) < 0 := by omega
  by_cases hM : M < 0
  ·have HZ : Hid (R = (M, 1, true)) := by rw [Hid, HW.out, decide_eq_true hM]
   have e1 : mtI M = 0 := by unfold mtI; rw [if_pos hM]
   have e2 : mtB M = false := by unfold mtB; rw [decide_eq_false qo]
   rw [e1, e2] at HP
   rw [HZ.out, wayX_t, wayK_t, wayZ_t]
   clear HW HZ e1 e2
   go_enter Tryz.func212, Tryz.ntmps212
   have F : Five ((w.alloc (.cells #[.string s, .int .i64 (p), .int .i64 (n), .bool v, .bool c] 206)).alloc (.cells #[.int .i64 0, .int .i64 0] 202)) w.heap.size s p n v c := Five.alloc (Five.new _ _ _ _ _ _ _) _
   have RB : Two ((w.alloc (.cells #[.string s, .int .i64 (p), .int .i64 (n), .bool v, .bool c] 206)).alloc (.cells #[.int .i64 0, .int .i64 0] 202)) (w.heap.size + 1) 0 0 := qN
   go_wp2_with fail
   refine (HL.out _).mono ?_
   rintro r1 w1 ⟨rfl, h1⟩
   obtain ⟨hc1, hf1, hz1⟩ := qb h1
   (try simp at hz1)
   have F1 : Five w1 (w.heap.size) s p n v c := qF
   have ⟨F1_0, F1_1, F1_2, F1_3, F1_4, F1_z, F1_l⟩ := F1
   have RB1 : Two w1 (w.heap.size + 1) (0) (0) := qTw
   have ⟨RB1_0, RB1_1, RB1_z, RB1_l⟩ := RB1
   clear hc1 hf1
   go_wp2_with fail
   refine (HA.out _).mono ?_
   rintro r2 w2 ⟨rfl, h2⟩
   obtain ⟨hc2, hf2, hz2⟩ := qb h2
   (try simp at hz2)
   have F2 : Five w2 (w.heap.size) s p n v c := qF
   have ⟨F2_0, F2_1, F2_2, F2_3, F2_4, F2_z, F2_l⟩ := F2
   have RB2 : Two w2 (w.heap.size + 1) (0) (0) := qTw
   have ⟨RB2_0, RB2_1, RB2_z, RB2_l⟩ := RB2
   clear hc2 hf2
   go_wp2_with fail
   refine (HP.out _).mono ?_
   rintro r3 w3 ⟨rfl, h3⟩
   obtain ⟨hc3, hf3, hz3⟩ := qb h3
   (try simp at hz3)
   have RB3 : Two w3 (w.heap.size + 1) (0) (0) := qTw
   have ⟨RB3_0, RB3_1, RB3_z, RB3_l⟩ := RB3
   clear hc3 hf3
   go_wp2
   all_goals
    first
     | (exact qV (.tuple #[.agg #[.int .i64 0, .int .i64 0], .bool false]) (by simp [results, Tryz.results212, go_sem, RB3_0, RB3_1, RB3_z, RB3_l]) rfl)
  ·have HZ : Hid (R = (M, 1, false)) := by rw [Hid, HW.out, decide_eq_false hM]
   have e1 : mtI M = M := by unfold mtI; rw [if_neg hM]
   have e2 : mtB M = true := by unfold mtB; rw [decide_eq_true qo]
   rw [e1, e2] at HP
   rw [HZ.out, wayX_f, wayK_f, wayZ_f]
   clear HW HZ e1 e2
   go_enter Tryz.func212, Tryz.ntmps212
   have F : Five ((w.alloc (.cells #[.string s, .int .i64 (p), .int .i64 (n), .bool v, .bool c] 206)).alloc (.cells #[.int .i64 0, .int .i64 0] 202)) w.heap.size s p n v c := Five.alloc (Five.new _ _ _ _ _ _ _) _
   have RB : Two ((w.alloc (.cells #[.string s, .int .i64 (p), .int .i64 (n), .bool v, .bool c] 206)).alloc (.cells #[.int .i64 0, .int .i64 0] 202)) (w.heap.size + 1) 0 0 := qN
   go_wp2_with fail
   refine (HL.out _).mono ?_
   rintro r1 w1 ⟨rfl, h1⟩
   obtain ⟨hc1, hf1, hz1⟩ := qb h1
   (try simp at hz1)
   have F1 : Five w1 (w.heap.size) s p n v c := qF
   have ⟨F1_0, F1_1, F1_2, F1_3, F1_4, F1_z, F1_l⟩ := F1
   have RB1 : Two w1 (w.heap.size + 1) (0) (0) := qTw
   have ⟨RB1_0, RB1_1, RB1_z, RB1_l⟩ := RB1
   clear hc1 hf1
   go_wp2_with fail
   refine (HA.out _).mono ?_
   rintro r2 w2 ⟨rfl, h2⟩
   obtain ⟨hc2, hf2, hz2⟩ := qb h2
   (try simp at hz2)
   have F2 : Five w2 (w.heap.size) s p n v c := qF
   have ⟨F2_0, F2_1, F2_2, F2_3, F2_4, F2_z, F2_l⟩ := F2
   have RB2 : Two w2 (w.heap.size + 1) (0) (0) := qTw
   have ⟨RB2_0, RB2_1, RB2_z, RB2_l⟩ := RB2
   clear hc2 hf2
   go_wp2_with fail
   refine (HP.out _).mono ?_
   rintro r3 w3 ⟨rfl, h3⟩
   obtain ⟨hc3, hf3, hz3⟩ := qb h3
   (try simp at hz3)
   have RB3 : Two w3 (w.heap.size + 1) (0) (0) := qTw
   have ⟨RB3_0, RB3_1, RB3_z, RB3_l⟩ := RB3
   clear hc3 hf3
   go_wp2
   all_goals
    first
     | (exact qV (.tuple #[.agg #[.int .i64 M, .int .i64 1], .bool true]) (by simp [results, Tryz.results212, go_sem, RB3_0, RB3_1, RB3_z, RB3_l]) rfl)
 ·have HW : Hid (Nib.pairWay s p = (0, 0, true)) := by rw [Hid]; unfold Nib.pairWay; rw [if_neg hb]
  have eb : brkAt s p = -1 := by unfold brkAt; rw [if_neg hb]
  rw [eb] at HA
  rw [HW.out, wayX_t, wayK_t, wayZ_t]
  clear eb HW hb hug
  generalize hF : Nib.fin s p = E at *
  clear hF
  generalize Nib.beg s p = B at *
  go_enter Tryz.func212, Tryz.ntmps212
  have F : Five ((w.alloc (.cells #[.string s, .int .i64 (p), .int .i64 (n), .bool v, .bool c] 206)).alloc (.cells #[.int .i64 0, .int .i64 0] 202)) w.heap.size s p n v c := Five.alloc (Five.new _ _ _ _ _ _ _) _
  have RB : Two ((w.alloc (.cells #[.string s, .int .i64 (p), .int .i64 (n), .bool v, .bool c] 206)).alloc (.cells #[.int .i64 0, .int .i64 0] 202)) (w.heap.size + 1) 0 0 := qN
  go_wp2_with fail
  refine (HL.out _).mono ?_
  rintro r1 w1 ⟨rfl, h1⟩
  obtain ⟨hc1, hf1, hz1⟩ := qb h1
  (try simp at hz1)
  have F1 : Five w1 (w.heap.size) s p n v c := qF
  have ⟨F1_0, F1_1, F1_2, F1_3, F1_4, F1_z, F1_l⟩ := F1
  have RB1 : Two w1 (w.heap.size + 1) (0) (0) := qTw
  have ⟨RB1_0, RB1_1, RB1_z, RB1_l⟩ := RB1
  clear hc1 hf1
  go_wp2_with fail
  refine (HA.out _).mono ?_
  rintro r2 w2 ⟨rfl, h2⟩
  obtain ⟨hc2, hf2, hz2⟩ := qb h2
  (try simp at hz2)
  have F2 : Five w2 (w.heap.size) s p n v c := qF
  have ⟨F2_0, F2_1, F2_2, F2_3, F2_4, F2_z, F2_l⟩ := F2
  have RB2 : Two w2 (w.heap.size + 1) (0) (0) := qTw
  have ⟨RB2_0, RB2_1, RB2_z, RB2_l⟩ := RB2
  clear hc2 hf2
  go_wp2
  all_goals
   first
    | (exact qV (.tuple #[.agg #[.int .i64 0, .int .i64 0], .bool false]) (by simp [results, Tryz.results212, go_sem, RB2_0, RB2_1, RB2_z, RB2_l]) rfl)
end Go.Proofs.YtlendfhehhacpaaGreat
