/- A part. -/
import Derived.Test.YtlendfhehhacpaaGreatT20
import Derived.Test.YtlendfhehhacpaaGreatT25
set_option linter.unusedVariables false
set_option linter.unusedSimpArgs false
set_option maxRecDepth 100000
set_option maxHeartbeats 8000000
namespace Go.Proofs.YtlendfhehhacpaaGreat
open Go.RowKit Nib Tryz
def isPlainWay (key : Int) : Bool := key == 104 || key == 108 || key == 48 || key == 94 || key == 36 || key == 106 || key == 107 || key == 71 || key == 103 || key == 119 || key == 87 || key == 98 || key == 66 || key == 101 || key == 69 || key == 125 || key == 123 || key == 37
theorem sGo_none (s : ByteArray) (p n key : Int) (v c : Bool) (w : World) (hk : isPlainWay key = false) :
  qC 169 #[.int .u8 key, .agg #[.string s, .int .i64 (p), .int .i64 (n), .bool v, .bool c]] w (.tuple #[.agg #[.int .i64 (wayX (((0 : Int), (0 : Int), true))), .int .i64 (wayK (((0 : Int), (0 : Int), true)))], .bool (wayZ (((0 : Int), (0 : Int), true)))]) := by
 rw [wayX_t, wayK_t, wayZ_t]
 simp only [isPlainWay, Bool.or_eq_false_iff] at hk
 obtain ⟨⟨⟨⟨⟨⟨⟨⟨⟨⟨⟨⟨⟨⟨⟨⟨⟨k0, k1⟩, k2⟩, k3⟩, k4⟩, k5⟩, k6⟩, k7⟩, k8⟩, k9⟩, k10⟩, k11⟩, k12⟩, k13⟩, k14⟩, k15⟩, k16⟩, k17⟩ := hk
 go_enter func169, ntmps169
 go_wp2
 all_goals
  first
   | (exact qV (.tuple #[.agg #[.int .i64 0, .int .i64 0], .bool false]) (by simp [results, results169, go_sem]) rfl)
theorem sTurned_102 (ch : Int) (w : World) :
  qC 184 #[.agg #[.int .u8 102, .int .u8 ch]] w (.agg #[.int .u8 70, .int .u8 ch]) := by
 go_enter func184, ntmps184
 go_wp2
 all_goals
  first
   | (exact qV (.agg #[.int .u8 70, .int .u8 ch]) (by simp [results, results184, go_sem]) rfl)
theorem sTurned_70 (ch : Int) (w : World) :
  qC 184 #[.agg #[.int .u8 70, .int .u8 ch]] w (.agg #[.int .u8 102, .int .u8 ch]) := by
 go_enter func184, ntmps184
 go_wp2
 all_goals
  first
   | (exact qV (.agg #[.int .u8 102, .int .u8 ch]) (by simp [results, results184, go_sem]) rfl)
theorem sTurned_116 (ch : Int) (w : World) :
  qC 184 #[.agg #[.int .u8 116, .int .u8 ch]] w (.agg #[.int .u8 84, .int .u8 ch]) := by
 go_enter func184, ntmps184
 go_wp2
 all_goals
  first
   | (exact qV (.agg #[.int .u8 84, .int .u8 ch]) (by simp [results, results184, go_sem]) rfl)
theorem sTurned_84 (ch : Int) (w : World) :
  qC 184 #[.agg #[.int .u8 84, .int .u8 ch]] w (.agg #[.int .u8 116, .int .u8 ch]) := by
 go_enter func184, ntmps184
 go_wp2
 all_goals
  first
   | (exact qV (.agg #[.int .u8 116, .int .u8 ch]) (by simp [results, results184, go_sem]) rfl)
theorem sTurned_0 (ch : Int) (w : World) :
  qC 184 #[.agg #[.int .u8 0, .int .u8 ch]] w (.agg #[.int .u8 0, .int .u8 ch]) := by
 go_enter func184, ntmps184
 go_wp2
 all_goals
  first
   | (exact qV (.agg #[.int .u8 0, .int .u8 ch]) (by simp [results, results184, go_sem]) rfl)
def brkAt (s : ByteArray) (p : Nat) : Int := if Nib.up (nobr s) (fin s p) p < fin s p then ((Nib.up (nobr s) (fin s p) p : Nat) : Int) - p else -1
theorem sToPartner_gen (s : ByteArray) (p n : Nat) (v c : Bool) (w : World) (hs : s.size ≤ 1000) (hp : p ≤ s.size)
  (HA : qH 254 #[.string (s.extract p (fin s p)), .string ⟨#[40, 41, 91, 93, 123, 125]⟩] (.int .i64 (brkAt s p))) :
  qC 212 #[.agg #[.string s, .int .i64 (p), .int .i64 (n), .bool v, .bool c]] w (.tuple #[.agg #[.int .i64 (wayX (pairWay s p)), .int .i64 (wayK (pairWay s p))], .bool (wayZ (pairWay s p))]) := by
 have HL : qH 239 #[.agg #[.string s, .int .i64 (p), .int .i64 (n), .bool v, .bool c]] (.agg #[.int .i64 (beg s p), .int .i64 (fin s p)]) := fun ww => sLine_any s p n v c p ww hs rfl hp
 have hfl := fin_le hp
 have hfg := fin_ge s p
 have hug : p ≤ Nib.up (nobr s) (fin s p) p := up_ge _ _ _
 have hx0 := ix1 (beg s p) (fin s p)
 by_cases hb : Nib.up (nobr s) (fin s p) p < fin s p
 ·have hnb : prt (bt s (Nib.up (nobr s) (fin s p) p)) ≠ 0 := by
   have h := up_end (c := nobr s) (n := fin s p) (p := p) hb
   generalize Nib.up (nobr s) (fin s p) p = U at *
   unfold nobr at h
   simpa using h
  have HP : qH 255 #[.string s, .int .i64 (Nib.up (nobr s) (fin s p) p : Nat)] (.tuple #[.int .i64 (mtI (mtch s (Nib.up (nobr s) (fin s p) p))), .bool (mtB (mtch s (Nib.up (nobr s) (fin s p) p)))]) := fun ww => tPartner_any s _ ww hs qo hnb
  have HW : Hid (pairWay s p = (mtch s (Nib.up (nobr s) (fin s p) p), 1, decide (mtch s (Nib.up (nobr s) (fin s p) p) < 0))) := by rw [Hid]; unfold pairWay; rw [if_pos hb]
  have eb : brkAt s p = ((Nib.up (nobr s) (fin s p) p : Nat) : Int) - p := by unfold brkAt; rw [if_pos hb]
  rw [eb] at HA
  clear eb hnb
  generalize pairWay s p = R at *
  generalize Nib.up (nobr s) (fin s p) p = U at *
  generalize mtch s U = M at *
  generalize hF : fin s p = E at *
  clear hF
  generalize beg s p = B at *
  have hup : (p : Int) + ((U : Int) - p) = (U : Int) := by omega
  have hge0 : ¬ ((U : Int) - p) < 0 := by omega
  by_cases hM : M < 0
  ·have HZ : Hid (R = (M, 1, true)) := by rw [Hid, HW.out, decide_eq_true hM]
   have e1 : mtI M = 0 := by unfold mtI; rw [if_pos hM]
   have e2 : mtB M = false := by unfold mtB; rw [decide_eq_false qo]
   rw [e1, e2] at HP
   rw [HZ.out, wayX_t, wayK_t, wayZ_t]
   clear HW HZ e1 e2
   go_enter func212, ntmps212
   have F : Five ((w.alloc (.cells #[.string s, .int .i64 (p), .int .i64 (n), .bool v, .bool c] 206)).alloc (.cells #[.int .i64 0, .int .i64 0] 202)) w.heap.size s p n v c := Five.alloc (Five.new _ _ _ _ _ _ _) _
   have RB : Two ((w.alloc (.cells #[.string s, .int .i64 (p), .int .i64 (n), .bool v, .bool c] 206)).alloc (.cells #[.int .i64 0, .int .i64 0] 202)) (w.heap.size + 1) 0 0 := qN
   go_wp2_with fail
   refine (HL.out _).mono ?_
   rintro r1 w1 ⟨rfl, h1⟩
   obtain ⟨hc1, hf1, hz1⟩ := qb h1
   (try simp at hz1)
   have F1 : Five w1 (w.heap.size) s p n v c := qF
   have ⟨F1_0, F1_1, F1_2, F1_3, F1_4, F1_z, F1_l⟩ := F1
   have RB1 : Two w1 (w.heap.size + 1) (0) (0) := qTw
   have ⟨RB1_0, RB1_1, RB1_z, RB1_l⟩ := RB1
   clear hc1 hf1
   go_wp2_with fail
   refine (HA.out _).mono ?_
   rintro r2 w2 ⟨rfl, h2⟩
   obtain ⟨hc2, hf2, hz2⟩ := qb h2
   (try simp at hz2)
   have F2 : Five w2 (w.heap.size) s p n v c := qF
   have ⟨F2_0, F2_1, F2_2, F2_3, F2_4, F2_z, F2_l⟩ := F2
   have RB2 : Two w2 (w.heap.size + 1) (0) (0) := qTw
   have ⟨RB2_0, RB2_1, RB2_z, RB2_l⟩ := RB2
   clear hc2 hf2
   go_wp2_with fail
   refine (HP.out _).mono ?_
   rintro r3 w3 ⟨rfl, h3⟩
   obtain ⟨hc3, hf3, hz3⟩ := qb h3
   (try simp at hz3)
   have RB3 : Two w3 (w.heap.size + 1) (0) (0) := qTw
   have ⟨RB3_0, RB3_1, RB3_z, RB3_l⟩ := RB3
   clear hc3 hf3
   go_wp2
   all_goals
    first
     | (exact qV (.tuple #[.agg #[.int .i64 0, .int .i64 0], .bool false]) (by simp [results, results212, go_sem, RB3_0, RB3_1, RB3_z, RB3_l]) rfl)
  ·have HZ : Hid (R = (M, 1, false)) := by rw [Hid, HW.out, decide_eq_false hM]
   have e1 : mtI M = M := by unfold mtI; rw [if_neg hM]
   have e2 : mtB M = true := by unfold mtB; rw [decide_eq_true qo]
   rw [e1, e2] at HP
   rw [HZ.out, wayX_f, wayK_f, wayZ_f]
   clear HW HZ e1 e2
   go_enter func212, ntmps212
   have F : Five ((w.alloc (.cells #[.string s, .int .i64 (p), .int .i64 (n), .bool v, .bool c] 206)).alloc (.cells #[.int .i64 0, .int .i64 0] 202)) w.heap.size s p n v c := Five.alloc (Five.new _ _ _ _ _ _ _) _
   have RB : Two ((w.alloc (.cells #[.string s, .int .i64 (p), .int .i64 (n), .bool v, .bool c] 206)).alloc (.cells #[.int .i64 0, .int .i64 0] 202)) (w.heap.size + 1) 0 0 := qN
   go_wp2_with fail
   refine (HL.out _).mono ?_
   rintro r1 w1 ⟨rfl, h1⟩
   obtain ⟨hc1, hf1, hz1⟩ := qb h1
   (try simp at hz1)
   have F1 : Five w1 (w.heap.size) s p n v c := qF
   have ⟨F1_0, F1_1, F1_2, F1_3, F1_4, F1_z, F1_l⟩ := F1
   have RB1 : Two w1 (w.heap.size + 1) (0) (0) := qTw
   have ⟨RB1_0, RB1_1, RB1_z, RB1_l⟩ := RB1
   clear hc1 hf1
   go_wp2_with fail
   refine (HA.out _).mono ?_
   rintro r2 w2 ⟨rfl, h2⟩
   obtain ⟨hc2, hf2, hz2⟩ := qb h2
   (try simp at hz2)
   have F2 : Five w2 (w.heap.size) s p n v c := qF
   have ⟨F2_0, F2_1, F2_2, F2_3, F2_4, F2_z, F2_l⟩ := F2
   have RB2 : Two w2 (w.heap.size + 1) (0) (0) := qTw
   have ⟨RB2_0, RB2_1, RB2_z, RB2_l⟩ := RB2
   clear hc2 hf2
   go_wp2_with fail
   refine (HP.out _).mono ?_
   rintro r3 w3 ⟨rfl, h3⟩
   obtain ⟨hc3, hf3, hz3⟩ := qb h3
   (try simp at hz3)
   have RB3 : Two w3 (w.heap.size + 1) (0) (0) := qTw
   have ⟨RB3_0, RB3_1, RB3_z, RB3_l⟩ := RB3
   clear hc3 hf3
   go_wp2
   all_goals
    first
     | (exact qV (.tuple #[.agg #[.int .i64 M, .int .i64 1], .bool true]) (by simp [results, results212, go_sem, RB3_0, RB3_1, RB3_z, RB3_l]) rfl)
 ·have HW : Hid (pairWay s p = (0, 0, true)) := by rw [Hid]; unfold pairWay; rw [if_neg hb]
  have eb : brkAt s p = -1 := by unfold brkAt; rw [if_neg hb]
  rw [eb] at HA
  rw [HW.out, wayX_t, wayK_t, wayZ_t]
  clear eb HW hb hug
  generalize hF : fin s p = E at *
  clear hF
  generalize beg s p = B at *
  go_enter func212, ntmps212
  have F : Five ((w.alloc (.cells #[.string s, .int .i64 (p), .int .i64 (n), .bool v, .bool c] 206)).alloc (.cells #[.int .i64 0, .int .i64 0] 202)) w.heap.size s p n v c := Five.alloc (Five.new _ _ _ _ _ _ _) _
  have RB : Two ((w.alloc (.cells #[.string s, .int .i64 (p), .int .i64 (n), .bool v, .bool c] 206)).alloc (.cells #[.int .i64 0, .int .i64 0] 202)) (w.heap.size + 1) 0 0 := qN
  go_wp2_with fail
  refine (HL.out _).mono ?_
  rintro r1 w1 ⟨rfl, h1⟩
  obtain ⟨hc1, hf1, hz1⟩ := qb h1
  (try simp at hz1)
  have F1 : Five w1 (w.heap.size) s p n v c := qF
  have ⟨F1_0, F1_1, F1_2, F1_3, F1_4, F1_z, F1_l⟩ := F1
  have RB1 : Two w1 (w.heap.size + 1) (0) (0) := qTw
  have ⟨RB1_0, RB1_1, RB1_z, RB1_l⟩ := RB1
  clear hc1 hf1
  go_wp2_with fail
  refine (HA.out _).mono ?_
  rintro r2 w2 ⟨rfl, h2⟩
  obtain ⟨hc2, hf2, hz2⟩ := qb h2
  (try simp at hz2)
  have F2 : Five w2 (w.heap.size) s p n v c := qF
  have ⟨F2_0, F2_1, F2_2, F2_3, F2_4, F2_z, F2_l⟩ := F2
  have RB2 : Two w2 (w.heap.size + 1) (0) (0) := qTw
  have ⟨RB2_0, RB2_1, RB2_z, RB2_l⟩ := RB2
  clear hc2 hf2
  go_wp2
  all_goals
   first
    | (exact qV (.tuple #[.agg #[.int .i64 0, .int .i64 0], .bool false]) (by simp [results, results212, go_sem, RB2_0, RB2_1, RB2_z, RB2_l]) rfl)
