/- A part. -/
import Derived.Test.YtlendfhehhacpaaGreatQ19
import Derived.Test.YtlendfhehhacpaaGreatQ24
import Derived.Test.YtlendfhehhacpaaGreatQ25
import Derived.Test.YtlendfhehhacpaaGreatQ23
import Derived.Shelf.Abstract
set_option linter.unusedVariables false
set_option linter.unusedSimpArgs false
set_option maxRecDepth 100000
set_option maxHeartbeats 8000000
namespace Go.Proofs.YtlendfhehhacpaaGreat
open Go.RowKit Nib Tryz
def isPlainWay (key : Int) : Bool := key == 104 || key == 108 || key == 48 || key == 94 || key == 36 || key == 106 || key == 107 || key == 71 || key == 103 || key == 119 || key == 87 || key == 98 || key == 66 || key == 101 || key == 69 || key == 125 || key == 123 || key == 37
theorem sGo_none (s : ByteArray) (p n key : Int) (v c : Bool) (w : World) (hk : isPlainWay key = false) :
  qC 169 #[.int .u8 key, .agg #[.string s, .int .i64 (p), .int .i64 (n), .bool v, .bool c]] w (.tuple #[.agg #[.int .i64 (wayX (((0 : Int), (0 : Int), true))), .int .i64 (wayK (((0 : Int), (0 : Int), true)))], .bool (wayZ (((0 : Int), (0 : Int), true)))]) := by
 rw [wayX_t, wayK_t, wayZ_t]
 simp only [isPlainWay, Bool.or_eq_false_iff] at hk
 obtain ⟨⟨⟨⟨⟨⟨⟨⟨⟨⟨⟨⟨⟨⟨⟨⟨⟨k0, k1⟩, k2⟩, k3⟩, k4⟩, k5⟩, k6⟩, k7⟩, k8⟩, k9⟩, k10⟩, k11⟩, k12⟩, k13⟩, k14⟩, k15⟩, k16⟩, k17⟩ := hk
 go_enter func169, ntmps169
 go_wp2
 all_goals
  first
   | (exact qV (.tuple #[.agg #[.int .i64 0, .int .i64 0], .bool false]) (by simp [results, results169, go_sem]) rfl)
theorem sTurned_102 (ch : Int) (w : World) :
  qC 184 #[.agg #[.int .u8 102, .int .u8 ch]] w (.agg #[.int .u8 70, .int .u8 ch]) := by
 go_enter func184, ntmps184
 go_wp2
 all_goals
  first
   | (exact qV (.agg #[.int .u8 70, .int .u8 ch]) (by simp [results, results184, go_sem]) rfl)
theorem sTurned_70 (ch : Int) (w : World) :
  qC 184 #[.agg #[.int .u8 70, .int .u8 ch]] w (.agg #[.int .u8 102, .int .u8 ch]) := by
 go_enter func184, ntmps184
 go_wp2
 all_goals
  first
   | (exact qV (.agg #[.int .u8 102, .int .u8 ch]) (by simp [results, results184, go_sem]) rfl)
theorem sTurned_116 (ch : Int) (w : World) :
  qC 184 #[.agg #[.int .u8 116, .int .u8 ch]] w (.agg #[.int .u8 84, .int .u8 ch]) := by
 go_enter func184, ntmps184
 go_wp2
 all_goals
  first
   | (exact qV (.agg #[.int .u8 84, .int .u8 ch]) (by simp [results, results184, go_sem]) rfl)
theorem sTurned_84 (ch : Int) (w : World) :
  qC 184 #[.agg #[.int .u8 84, .int .u8 ch]] w (.agg #[.int .u8 116, .int .u8 ch]) := by
 go_enter func184, ntmps184
 go_wp2
 all_goals
  first
   | (exact qV (.agg #[.int .u8 116, .int .u8 ch]) (by simp [results, results184, go_sem]) rfl)
theorem sTurned_0 (ch : Int) (w : World) :
  qC 184 #[.agg #[.int .u8 0, .int .u8 ch]] w (.agg #[.int .u8 0, .int .u8 ch]) := by
 go_enter func184, ntmps184
 go_wp2
 all_goals
  first
   | (exact qV (.agg #[.int .u8 0, .int .u8 ch]) (by simp [results, results184, go_sem]) rfl)
theorem tPartner_any (s : ByteArray) (p : Nat) (w : World) (hs : s.size ≤ 1000) (hp : p < s.size) (hb : prt (bt s p) ≠ 0) :
  qC 255 #[.string s, .int .i64 p] w (.tuple #[.int .i64 (mtI (mtch s p)), .bool (mtB (mtch s p))]) := by
 have HS : qH 287 #[.string s, .int .u8 (((s[p]'hp).toNat : Nat) : Int), .int .i64 p, .int .i64 0] (.tuple #[.int .i64 (mtI (mtch s p)), .bool (mtB (mtch s p))]) := by
  intro ww
  rw [← bt_in hp]
  have hcase : bt s p = 40 ∨ bt s p = 91 ∨ bt s p = 123 ∨ bt s p = 41 ∨ bt s p = 93 ∨ bt s p = 125 := by
   unfold prt at hb
   by_cases h1 : bt s p = 40
   ·exact Or.inl h1
   by_cases h2 : bt s p = 91
   ·exact Or.inr (Or.inl h2)
   by_cases h3 : bt s p = 123
   ·exact Or.inr (Or.inr (Or.inl h3))
   by_cases h4 : bt s p = 41
   ·exact Or.inr (Or.inr (Or.inr (Or.inl h4)))
   by_cases h5 : bt s p = 93
   ·exact Or.inr (Or.inr (Or.inr (Or.inr (Or.inl h5))))
   by_cases h6 : bt s p = 125
   ·exact Or.inr (Or.inr (Or.inr (Or.inr (Or.inr h6))))
   ·rw [if_neg h1, if_neg h2, if_neg h3, if_neg h4, if_neg h5, if_neg h6] at hb
    exact absurd rfl hb
  rcases hcase with h | h | h | h | h | h
  ·have e : mtch s p = mtU s 40 41 (s.size - p) ((0 : Nat) : Int) p := by unfold mtch; rw [h]; rfl
   rw [e, h]; exact tSeek_40 s p 0 ww hs hp qo (Or.inr h)
  ·have e : mtch s p = mtU s 91 93 (s.size - p) ((0 : Nat) : Int) p := by unfold mtch; rw [h]; rfl
   rw [e, h]; exact tSeek_91 s p 0 ww hs hp qo (Or.inr h)
  ·have e : mtch s p = mtU s 123 125 (s.size - p) ((0 : Nat) : Int) p := by unfold mtch; rw [h]; rfl
   rw [e, h]; exact tSeek_123 s p 0 ww hs hp qo (Or.inr h)
  ·have e : mtch s p = mtD s 41 40 ((0 : Nat) : Int) (p + 1) := by unfold mtch; rw [h]; rfl
   rw [e, h]; exact tSeek_41 s p 0 ww hs hp qo (Or.inr h)
  ·have e : mtch s p = mtD s 93 91 ((0 : Nat) : Int) (p + 1) := by unfold mtch; rw [h]; rfl
   rw [e, h]; exact tSeek_93 s p 0 ww hs hp qo (Or.inr h)
  ·have e : mtch s p = mtD s 125 123 ((0 : Nat) : Int) (p + 1) := by unfold mtch; rw [h]; rfl
   rw [e, h]; exact tSeek_125 s p 0 ww hs hp qo (Or.inr h)
 generalize mtch s p = M at *
 generalize mtI M = X at *
 generalize mtB M = Z at *
 clear hb
 go_enter func255, ntmps255
 go_wp2_with fail
 refine (HS.out _).mono ?_
 rintro e w1 ⟨rfl, h1⟩
 obtain ⟨hc1, hf1, hz1⟩ := qb h1
 try simp at hz1
 go_wp2
 all_goals
  first
   | (exact qV (.tuple #[.int .i64 X, .bool Z]) (by simp [results, results255, go_sem]) rfl)
def brkAt (s : ByteArray) (p : Nat) : Int := if Nib.up (nobr s) (fin s p) p < fin s p then ((Nib.up (nobr s) (fin s p) p : Nat) : Int) - p else -1
theorem sToPartner_gen (s : ByteArray) (p n : Nat) (v c : Bool) (w : World) (hs : s.size ≤ 1000) (hp : p ≤ s.size)
  (HA : qH 254 #[.string (s.extract p (fin s p)), .string ⟨#[40, 41, 91, 93, 123, 125]⟩] (.int .i64 (brkAt s p))) :
  qC 212 #[.agg #[.string s, .int .i64 (p), .int .i64 (n), .bool v, .bool c]] w (.tuple #[.agg #[.int .i64 (wayX (pairWay s p)), .int .i64 (wayK (pairWay s p))], .bool (wayZ (pairWay s p))]) := by
 have HL : qH 239 #[.agg #[.string s, .int .i64 (p), .int .i64 (n), .bool v, .bool c]] (.agg #[.int .i64 (beg s p), .int .i64 (fin s p)]) := fun ww => sLine_any s p n v c p ww hs rfl hp
 have hfl := fin_le hp
 have hfg := fin_ge s p
 have hug : p ≤ Nib.up (nobr s) (fin s p) p := up_ge _ _ _
 have hx0 := ix1 (beg s p) (fin s p)
 by_cases hb : Nib.up (nobr s) (fin s p) p < fin s p
 ·have hnb : prt (bt s (Nib.up (nobr s) (fin s p) p)) ≠ 0 := by
   have h := up_end (c := nobr s) (n := fin s p) (p := p) hb
   generalize Nib.up (nobr s) (fin s p) p = U at *
   unfold nobr at h
   simpa using h
  have HP : qH 255 #[.string s, .int .i64 (Nib.up (nobr s) (fin s p) p : Nat)] (.tuple #[.int .i64 (mtI (mtch s (Nib.up (nobr s) (fin s p) p))), .bool (mtB (mtch s (Nib.up (nobr s) (fin s p) p)))]) := fun ww => tPartner_any s _ ww hs qo hnb
  have HW : Hid (pairWay s p = (mtch s (Nib.up (nobr s) (fin s p) p), 1, decide (mtch s (Nib.up (nobr s) (fin s p) p) < 0))) := by rw [Hid]; unfold pairWay; rw [if_pos hb]
  have eb : brkAt s p = ((Nib.up (nobr s) (fin s p) p : Nat) : Int) - p := by unfold brkAt; rw [if_pos hb]
  rw [eb] at HA
  clear eb hnb
  generalize pairWay s p = R at *
  generalize Nib.up (nobr s) (fin s p) p = U at *
  generalize mtch s U = M at *
  generalize hF : fin s p = E at *
  clear hF
  generalize beg s p = B at *
  have hup : (p : Int) + ((U : Int) - p) = (U : Int) := by omega
  have hge0 : ¬ ((U : Int) - p) < 0 := by omega
  by_cases hM : M < 0
  ·have HZ : Hid (R = (M, 1, true)) := by rw [Hid, HW.out, decide_eq_true hM]
   have e1 : mtI M = 0 := by unfold mtI; rw [if_pos hM]
   have e2 : mtB M = false := by unfold mtB; rw [decide_eq_false qo]
   rw [e1, e2] at HP
   rw [HZ.out, wayX_t, wayK_t, wayZ_t]
   clear HW HZ e1 e2
   go_enter func212, ntmps212
   have F : Five ((w.alloc (.cells #[.string s, .int .i64 (p), .int .i64 (n), .bool v, .bool c] 206)).alloc (.cells #[.int .i64 0, .int .i64 0] 202)) w.heap.size s p n v c := Five.alloc (Five.new _ _ _ _ _ _ _) _
   have RB : Two ((w.alloc (.cells #[.string s, .int .i64 (p), .int .i64 (n), .bool v, .bool c] 206)).alloc (.cells #[.int .i64 0, .int .i64 0] 202)) (w.heap.size + 1) 0 0 := qN
   go_wp2_with fail
   refine (HL.out _).mono ?_
   rintro r1 w1 ⟨rfl, h1⟩
   obtain ⟨hc1, hf1, hz1⟩ := qb h1
   (try simp at hz1)
   have F1 : Five w1 (w.heap.size) s p n v c := qF
   have ⟨F1_0, F1_1, F1_2, F1_3, F1_4, F1_z, F1_l⟩ := F1
   have RB1 : Two w1 (w.heap.size + 1) (0) (0) := qTw
   have ⟨RB1_0, RB1_1, RB1_z, RB1_l⟩ := RB1
   clear hc1 hf1
   go_wp2_with fail
   refine (HA.out _).mono ?_
   rintro r2 w2 ⟨rfl, h2⟩
   obtain ⟨hc2, hf2, hz2⟩ := qb h2
   (try simp at hz2)
   have F2 : Five w2 (w.heap.size) s p n v c := qF
   have ⟨F2_0, F2_1, F2_2, F2_3, F2_4, F2_z, F2_l⟩ := F2
   have RB2 : Two w2 (w.heap.size + 1) (0) (0) := qTw
   have ⟨RB2_0, RB2_1, RB2_z, RB2_l⟩ := RB2
   clear hc2 hf2
   go_wp2_with fail
   refine (HP.out _).mono ?_
   rintro r3 w3 ⟨rfl, h3⟩
   obtain ⟨hc3, hf3, hz3⟩ := qb h3
   (try simp at hz3)
   have RB3 : Two w3 (w.heap.size + 1) (0) (0) := qTw
   have ⟨RB3_0, RB3_1, RB3_z, RB3_l⟩ := RB3
   clear hc3 hf3
   go_wp2
   all_goals
    first
     | (exact qV (.tuple #[.agg #[.int .i64 0, .int .i64 0], .bool false]) (by simp [results, results212, go_sem, RB3_0, RB3_1, RB3_z, RB3_l]) rfl)
  ·have HZ : Hid (R = (M, 1, false)) := by rw [Hid, HW.out, decide_eq_false hM]
   have e1 : mtI M = M := by unfold mtI; rw [if_neg hM]
   have e2 : mtB M = true := by unfold mtB; rw [decide_eq_true qo]
   rw [e1, e2] at HP
   rw [HZ.out, wayX_f, wayK_f, wayZ_f]
   clear HW HZ e1 e2
   go_enter func212, ntmps212
   have F : Five ((w.alloc (.cells #[.string s, .int .i64 (p), .int .i64 (n), .bool v, .bool c] 206)).alloc (.cells #[.int .i64 0, .int .i64 0] 202)) w.heap.size s p n v c := Five.alloc (Five.new _ _ _ _ _ _ _) _
   have RB : Two ((w.alloc (.cells #[.string s, .int .i64 (p), .int .i64 (n), .bool v, .bool c] 206)).alloc (.cells #[.int .i64 0, .int .i64 0] 202)) (w.heap.size + 1) 0 0 := qN
   go_wp2_with fail
   refine (HL.out _).mono ?_
   rintro r1 w1 ⟨rfl, h1⟩
   obtain ⟨hc1, hf1, hz1⟩ := qb h1
   (try simp at hz1)
   have F1 : Five w1 (w.heap.size) s p n v c := qF
   have ⟨F1_0, F1_1, F1_2, F1_3, F1_4, F1_z, F1_l⟩ := F1
   have RB1 : Two w1 (w.heap.size + 1) (0) (0) := qTw
   have ⟨RB1_0, RB1_1, RB1_z, RB1_l⟩ := RB1
   clear hc1 hf1
   go_wp2_with fail
   refine (HA.out _).mono ?_
   rintro r2 w2 ⟨rfl, h2⟩
   obtain ⟨hc2, hf2, hz2⟩ := qb h2
   (try simp at hz2)
   have F2 : Five w2 (w.heap.size) s p n v c := qF
   have ⟨F2_0, F2_1, F2_2, F2_3, F2_4, F2_z, F2_l⟩ := F2
   have RB2 : Two w2 (w.heap.size + 1) (0) (0) := qTw
   have ⟨RB2_0, RB2_1, RB2_z, RB2_l⟩ := RB2
   clear hc2 hf2
   go_wp2_with fail
   refine (HP.out _).mono ?_
   rintro r3 w3 ⟨rfl, h3⟩
   obtain ⟨hc3, hf3, hz3⟩ := qb h3
   (try simp at hz3)
   have RB3 : Two w3 (w.heap.size + 1) (0) (0) := qTw
   have ⟨RB3_0, RB3_1, RB3_z, RB3_l⟩ := RB3
   clear hc3 hf3
   go_wp2
   all_goals
    first
     | (exact qV (.tuple #[.agg #[.int .i64 M, .int .i64 1], .bool true]) (by simp [results, results212, go_sem, RB3_0, RB3_1, RB3_z, RB3_l]) rfl)
 ·have HW : Hid (pairWay s p = (0, 0, true)) := by rw [Hid]; unfold pairWay; rw [if_neg hb]
  have eb : brkAt s p = -1 := by unfold brkAt; rw [if_neg hb]
  rw [eb] at HA
  rw [HW.out, wayX_t, wayK_t, wayZ_t]
  clear eb HW hb hug
  generalize hF : fin s p = E at *
  clear hF
  generalize beg s p = B at *
  go_enter func212, ntmps212
  have F : Five ((w.alloc (.cells #[.string s, .int .i64 (p), .int .i64 (n), .bool v, .bool c] 206)).alloc (.cells #[.int .i64 0, .int .i64 0] 202)) w.heap.size s p n v c := Five.alloc (Five.new _ _ _ _ _ _ _) _
  have RB : Two ((w.alloc (.cells #[.string s, .int .i64 (p), .int .i64 (n), .bool v, .bool c] 206)).alloc (.cells #[.int .i64 0, .int .i64 0] 202)) (w.heap.size + 1) 0 0 := qN
  go_wp2_with fail
  refine (HL.out _).mono ?_
  rintro r1 w1 ⟨rfl, h1⟩
  obtain ⟨hc1, hf1, hz1⟩ := qb h1
  (try simp at hz1)
  have F1 : Five w1 (w.heap.size) s p n v c := qF
  have ⟨F1_0, F1_1, F1_2, F1_3, F1_4, F1_z, F1_l⟩ := F1
  have RB1 : Two w1 (w.heap.size + 1) (0) (0) := qTw
  have ⟨RB1_0, RB1_1, RB1_z, RB1_l⟩ := RB1
  clear hc1 hf1
  go_wp2_with fail
  refine (HA.out _).mono ?_
  rintro r2 w2 ⟨rfl, h2⟩
  obtain ⟨hc2, hf2, hz2⟩ := qb h2
  (try simp at hz2)
  have F2 : Five w2 (w.heap.size) s p n v c := qF
  have ⟨F2_0, F2_1, F2_2, F2_3, F2_4, F2_z, F2_l⟩ := F2
  have RB2 : Two w2 (w.heap.size + 1) (0) (0) := qTw
  have ⟨RB2_0, RB2_1, RB2_z, RB2_l⟩ := RB2
  clear hc2 hf2
  go_wp2
  all_goals
   first
    | (exact qV (.tuple #[.agg #[.int .i64 0, .int .i64 0], .bool false]) (by simp [results, results212, go_sem, RB2_0, RB2_1, RB2_z, RB2_l]) rfl)
theorem mDo_plain (v : Int) (r d m : Nat) (p : Pg) (i j : Nat) (l : Bool) (t2 : ByteArray) (q : Nat) (f : Int → Value) (w : World) (h : RdAt w r d p) (hg : RgAt w m f) (hm : p.regs = .map (some m)) (hmr : m ≠ r) (hmd : m ≠ d) (hs : p.t.size ≤ 1000) (hs2 : t2.size ≤ 1000) (hij : i ≤ j) (hj : j ≤ p.t.size) (hne : ¬ (i = j ∧ l = false)) (hq : q ≤ t2.size) (hv : v = 62 ∨ v = 60 ∨ v = 117 ∨ v = 85)
  (HD : qH 174 #[.int .u8 v, .string p.t, .agg #[.int .i64 i, .int .i64 j, .bool l], .int .i64 p.pl] (.tuple #[.string t2, .int .i64 q])) :
  Calls Tryz.prog 146 #[.pointer (some ⟨r, 0, none⟩), .int .u8 v, .agg #[.int .i64 i, .int .i64 j, .bool l]] w fun e w' => e = .returned (.int .i64 2) ∧ RdAt w' r d { p with t := t2, mode := 0, anchor := 0, pl := clm t2 q } ∧ RgAt w' m f ∧ Upd [d, m] w w' := by
 have HN : qH 172 #[.agg #[.int .i64 i, .int .i64 j, .bool l]] (.bool false) := by
  exact qt57
 have HT : qH 173 #[.string p.t, .agg #[.int .i64 i, .int .i64 j, .bool l]] (.agg #[.string (tkn p.t i j l), .bool l]) := fun ww => mTaken_piece p.t i j l ww hs hij hj
 generalize tkn p.t i j l = X at *
 have HBc : Hid (∀ ww, RdAt ww r d p → Calls Tryz.prog 175 #[.pointer (some ⟨d, 0, none⟩), .string t2] ww fun e w' => e = .returned (.bool true) ∧ RdAt w' r d { p with t := t2 } ∧ Upd [d] ww w') := fun ww hh => mBecome r d p t2 ww hh hs2
 have hml := hg.lt
 have HWs : qH 176 #[.int .u8 v] (.bool false) := fun ww => by
  rcases hv with hv | hv | hv | hv <;> subst hv <;> exact vWrites_any _ ww
 have HTN : Hid (∀ ww, RdAt ww r d { p with t := t2 } → Calls Tryz.prog 136 #[.pointer (some ⟨d, 0, none⟩)] ww fun e w' => e = .returned (.tuple #[]) ∧ RdAt w' r d { p with t := t2, mode := 0, anchor := 0 } ∧ Upd [d] ww w') := fun ww hh => mToNormal r d { p with t := t2 } ww hh
 have HMv : Hid (∀ ww, RdAt ww r d { p with t := t2, mode := 0, anchor := 0 } → Calls Tryz.prog 179 #[.pointer (some ⟨d, 0, none⟩), .int .i64 q] ww fun e w' => e = .returned (.tuple #[]) ∧ RdAt w' r d { p with t := t2, mode := 0, anchor := 0, pl := clm t2 q } ∧ Upd [d] ww w') := fun ww hh => mMoveTo r d { p with t := t2, mode := 0, anchor := 0 } q q ww hh hs2 rfl hq
 have v99 : (v == 99) = false := by simp; omega
 have v121 : (v == 121) = false := by simp; omega
 have v99' : (v != 99) = true := by simp; omega
 generalize hP6 : ({ p with t := t2, mode := 0, anchor := 0, pl := clm t2 q } : Pg) = P6 at *
 generalize hP5 : ({ p with t := t2, mode := 0, anchor := 0 } : Pg) = P5 at *
 generalize hP4 : ({ p with t := t2 } : Pg) = P4 at *
 clear hP4 hP5 hP6
 have H := h
 obtain ⟨c0, c1, c2, c3, c4, c5, c6, c7, c8, c9, fz, lt⟩ := h.dk
 obtain ⟨b0, b1, b2, b3, b4, b5, bz, bl⟩ := h.bg
 clear c2 c3 c4 c5 c6 c7 c8 c9 b1 b2 b3 b4 b5 h
 have l1 : r < w.heap.size + 1 := by omega
 have l2 : d < w.heap.size + 1 := by omega
 have l3 : ¬ w.heap.size = d := by omega
 have l4 : ¬ w.heap.size = r := by omega
 go_enter func146, ntmps146
 go_wp2_with fail
 refine (HN.out _).mono ?_
 rintro e w1 ⟨rfl, h1⟩
 obtain ⟨hc1, hf1, hz1⟩ := qb h1
 try simp at hz1
 have d0 : w1.cell? ⟨d, 0, none⟩ = some (.string p.t) := by rw [hc1 _ _ qs]; go_simp
 have d1 : w1.cell? ⟨d, 1, none⟩ = some (.int .i64 p.pl) := by rw [hc1 _ _ qs]; go_simp
 have r0 : w1.cell? ⟨r, 0, none⟩ = some (.pointer (some ⟨d, 0, none⟩)) := by rw [hc1 _ _ qs]; go_simp
 have p0 : w1.cell? ⟨w.heap.size, 0, none⟩ = some (.int .i64 i) := by rw [hc1 _ _ qi]; simp
 have p1 : w1.cell? ⟨w.heap.size, 1, none⟩ = some (.int .i64 j) := by rw [hc1 _ _ qi]; simp
 have p2 : w1.cell? ⟨w.heap.size, 2, none⟩ = some (.bool l) := by rw [hc1 _ _ qi]; simp
 have k1 : r < w1.heap.size := by omega
 have k2 : d < w1.heap.size := by omega
 have k3 : w.heap.size < w1.heap.size := by omega
 clear hc1 hf1
 go_wp2_with fail
 go_region_held3 (fun ww => ww.cell? ⟨r, 0, none⟩ = some (.pointer (some ⟨d, 0, none⟩)) ∧ ww.cell? ⟨d, 0, none⟩ = some (.string p.t) ∧ ww.cell? ⟨w.heap.size, 0, none⟩ = some (.int .i64 i) ∧ ww.cell? ⟨w.heap.size, 1, none⟩ = some (.int .i64 j) ∧ ww.cell? ⟨w.heap.size, 2, none⟩ = some (.bool l)) (exact qK) (first | (go_at_call 173; with_reducible refine Calls.mono (HT.out (w1.alloc (.cells #[.string ⟨#[]⟩, .bool false] 99)).drew) ?_; rintro r2 w2 ⟨rfl, h2⟩; obtain ⟨hc2, hf2, hz2⟩ := qb h2; simp at hz2; have hn0 : w2.cell? ⟨w1.heap.size, 0, none⟩ = some (.string ⟨#[]⟩) := (hc2 (w1.heap.size) 0 qi).trans qi; have hn1 : w2.cell? ⟨w1.heap.size, 1, none⟩ = some (.bool false) := (hc2 (w1.heap.size) 1 qi).trans qi; have hq2 : ∀ o, w2.frozen? ⟨w1.heap.size, o, none⟩ = false := (fun o => (hf2 (w1.heap.size) o qi).trans qi); clear hc2 hf2) | (go_at_call 173; with_reducible refine Calls.mono (HT.out w1.drew) ?_; rintro r2 w2 ⟨rfl, h2⟩; have hz2 := h2.size; simp at hz2))
 rename_i hHeld
 have E : DoAt w (w2.alloc (.cells #[.string X, .bool l] 99)) r d m w.heap.size w2.heap.size p f i j l X := by
  exact qt33
 clear hHeld h1 h2 hz2 hg H d0 d1 r0 p0 p1 p2
 generalize (w2.alloc (.cells #[.string X, .bool l] 99)) = W at *
 generalize w2.heap.size = k at *
 rotate_left
 rename_i hHeld
 have E : DoAt w ((w2.setCell ⟨w1.heap.size, 0, none⟩ (.string X)).setCell ⟨w1.heap.size, 1, none⟩ (.bool l)) r d m w.heap.size w1.heap.size p f i j l X := by
  exact qt26
 clear hHeld h1 h2 hz2 hg H d0 d1 r0 p0 p1 p2
 generalize ((w2.setCell ⟨w1.heap.size, 0, none⟩ (.string X)).setCell ⟨w1.heap.size, 1, none⟩ (.bool l)) = W at *
 generalize w1.heap.size = k at *
 rotate_left
 all_goals
  obtain ⟨rd, rg, p0, p1, p2, x0, x1, lb, lk, up, lw⟩ := E
  have H := rd
  have r0 := rd.bg.c0
  have d0 := rd.dk.c0
  have d1 := rd.dk.c1
  have hlr := rd.bg.lt
  have hld := rd.dk.lt
  go_wp2_with fail
  go_region_held3 (fun ww => ww.cell? ⟨r, 0, none⟩ = some (.pointer (some ⟨d, 0, none⟩)) ∧ ww.cell? ⟨d, 0, none⟩ = some (.string p.t) ∧ ww.cell? ⟨d, 1, none⟩ = some (.int .i64 p.pl) ∧ ww.cell? ⟨w.heap.size, 0, none⟩ = some (.int .i64 i) ∧ ww.cell? ⟨w.heap.size, 1, none⟩ = some (.int .i64 j) ∧ ww.cell? ⟨w.heap.size, 2, none⟩ = some (.bool l)) (exact qK) ((go_at_call 174; refine Calls.mono (HD.out _) ?_; rintro r3 w3 ⟨rfl, h3⟩; have hz3 := h3.size; (try simp at hz3); (try have ⟨hl3_0, hk3_0⟩ := qL d w3.heap.size); (try have ⟨hl3_1, hk3_1⟩ := qL r w3.heap.size); (try have ⟨hl3_2, hk3_2⟩ := qL w.heap.size w3.heap.size)))
  have H3 := (rd.drew).below h3
  have G3 := (rg.drew).below h3
  have y0 := memLater h3 (memLater ((Below.refl _ _).drew) x0)
  have y1 := memLater h3 (memLater ((Below.refl _ _).drew) x1)
  have up3 : Below w.heap.size w w3 := by
   repeat exact qB
  clear rd rg x0 x1 up h3 H r0 d0 d1
  go_wp2_with fail
  refine Calls.mono (HBc.out _ H3) ?_
  rintro e4 w4 ⟨rfl, H4, u4⟩
  have G4 : RgAt w4 m f := G3.of_block (u4.block m G3.lt (by simp; exact hmd))
  have z0 := u4.was y0 qs
  have z1 := u4.was y1 qs
  go_wp2_with fail
  refine Calls.mono (HWs.out _) ?_
  rintro e5 w5 ⟨rfl, h5⟩
  have H5 := H4.below h5
  have G5 := G4.below h5
  have U6 : Upd [d, m] w w5 := Upd.below (Upd.trans (Upd.of_below up3) (Upd.mono u4 qi)) h5
  have r0 := H5.bg.c0
  clear z0 z1 y0 y1 G4 G3 H3 H4 u4 h5 up3
  go_wp2_with fail
  refine Calls.mono (HTN.out _ H5) ?_
  rintro e7 w7 ⟨rfl, H7, u7⟩
  have G7 : RgAt w7 m f := G5.of_block (u7.block m G5.lt (by simp; exact hmd))
  have r7 := H7.bg.c0
  go_wp2_with fail
  refine Calls.mono (HMv.out _ H7) ?_
  rintro e8 w8 ⟨rfl, H8, u8⟩
  have G8 : RgAt w8 m f := G7.of_block (u8.block m G7.lt (by simp; exact hmd))
  have U8 : Upd [d, m] w w8 := (U6.trans (u7.mono qi)).trans (u8.mono qi)
  clear u7 u8 U6 H7 H5 G7 G5
  go_wp2
  go_ret
  exact ⟨rfl, H8, G8, U8⟩
def casS (F : UInt8 → UInt8) (s : ByteArray) (i j : Nat) : ByteArray := s.extract 0 i ++ ⟨((s.extract i j).data.toList.map F).toArray⟩ ++ s.extract j s.size
theorem casS_size {F : UInt8 → UInt8} {s : ByteArray} {i j : Nat} (h : i ≤ j) (hj : j ≤ s.size) : (casS F s i j).size = s.size := by
 unfold casS
 have h1 : (⟨((s.extract i j).data.toList.map F).toArray⟩ : ByteArray).size = j - i := by
  show ((s.extract i j).data.toList.map F).toArray.size = _
  have : (s.extract i j).size = j - i := by rw [ByteArray.size_extract]; omega
  rw [List.size_toArray, List.length_map, Array.length_toList]
  exact this
 rw [ByteArray.size_append, ByteArray.size_append, h1, ByteArray.size_extract, ByteArray.size_extract]
 omega
theorem qt24 {P : Prop} (h : P := by
  generalize s.extract i j = O at *
  clear HW hms hos
  go_enter func174, ntmps174
  have g0 : (w.alloc (.cells #[.int .i64 i, .int .i64 j, .bool l] 186)).cell? ⟨w.heap.size, 0, none⟩ = some (.int .i64 i) := by simp
  have g1 : (w.alloc (.cells #[.int .i64 i, .int .i64 j, .bool l] 186)).cell? ⟨w.heap.size, 1, none⟩ = some (.int .i64 j) := by simp
  have g2 : (w.alloc (.cells #[.int .i64 i, .int .i64 j, .bool l] 186)).cell? ⟨w.heap.size, 2, none⟩ = some (.bool l) := by simp
  go_wp2_with fail
  go_region_held3 (fun ww => ww.cell? ⟨w.heap.size, 0, none⟩ = some (.int .i64 i) ∧ ww.cell? ⟨w.heap.size, 1, none⟩ = some (.int .i64 j) ∧ ww.cell? ⟨w.heap.size, 2, none⟩ = some (.bool l)) (exact qK) (first | (go_at_call 87; refine Calls.mono (HO.out _) ?_; rintro r1 w1 ⟨rfl, h1⟩; have hz1 := h1.size; (try simp at hz1); (try have ⟨hl1_0, hk1_0⟩ := qL w.heap.size w1.heap.size)) | (go_at_call 193; refine Calls.mono (HE.out _) ?_; rintro r2 w2 ⟨rfl, h2⟩; have hz2 := h2.size; (try simp at hz2); (try have ⟨hl2_0, hk2_0⟩ := qL w.heap.size w2.heap.size)) | (go_at_call 192; refine Calls.mono (HW1.out _) ?_; rintro r3 w3 ⟨rfl, h3⟩; have hz3 := h3.size; (try simp at hz3); (try have ⟨hl3_0, hk3_0⟩ := qL w.heap.size w3.heap.size)) | (go_at_call 221; refine Calls.mono (HB.out _) ?_; rintro r4 w4 ⟨rfl, h4⟩; have hz4 := h4.size; (try simp at hz4); (try have ⟨hl4_0, hk4_0⟩ := qL w.heap.size w4.heap.size)))
  go_wp2
  exact qV (.tuple #[.string X, .int .i64 q]) (by simp [results, results174, go_sem]) rfl
 ) : P := h
theorem vDo_case (v : Int) (s : ByteArray) (i j : Nat) (p q : Int) (l : Bool) (w : World) (hs : s.size ≤ 1000) (h : i ≤ j) (hj : j ≤ s.size) (hv : v = 117 ∨ v = 85)
  (HB : qH 221 #[.string s, .agg #[.int .i64 i, .int .i64 j, .bool l], .int .i64 p] (.int .i64 q)) :
  qC 174 #[.int .u8 v, .string s, .agg #[.int .i64 i, .int .i64 j, .bool l], .int .i64 p] w (.tuple #[.string (casS (if v = 117 then smallU else greatU) s i j), .int .i64 q]) := by
 have HO : qH 87 #[.string s, .agg #[.int .i64 (i), .int .i64 (j)]] (.string (s.extract i j)) := fun ww => tOf_any s i j i j ww hs rfl rfl h hj
 have hos : (s.extract i j).size ≤ 1000 := by rw [ByteArray.size_extract]; omega
 have hms : ∀ F : UInt8 → UInt8, (⟨((s.extract i j).data.toList.map F).toArray⟩ : ByteArray).size ≤ 1000 := by
  intro F
  show ((s.extract i j).data.toList.map F).toArray.size ≤ 1000
  rw [List.size_toArray, List.length_map, Array.length_toList]
  exact hos
 have HW : ∀ F : UInt8 → UInt8, qH 192 #[.string s, .agg #[.int .i64 (i), .int .i64 (j)], .string ⟨((s.extract i j).data.toList.map F).toArray⟩] (.string (casS F s i j)) := fun F ww => tWith_any s _ i j i j ww hs (by have := hms F; omega) rfl rfl h hj
 rcases hv with hv | hv
 ·subst hv
  rw [if_pos rfl]
  have HE : qH 193 #[.string (s.extract i j), .func (.func 220) #[] #[]] (.string ⟨((s.extract i j).data.toList.map smallU).toArray⟩) := fun ww => tEach _ _ smallU ww hos (enters_of func220 qk rfl) (fun c w2 => tSmall c w2)
  have HW1 := HW smallU
  generalize casS smallU s i j = X at *
  generalize (⟨((s.extract i j).data.toList.map smallU).toArray⟩ : ByteArray) = A at *
  exact qt24
 ·subst hv
  rw [if_neg qd]
  have HE : qH 193 #[.string (s.extract i j), .func (.func 222) #[] #[]] (.string ⟨((s.extract i j).data.toList.map greatU).toArray⟩) := fun ww => tEach _ _ greatU ww hos (enters_of func222 qk rfl) (fun c w2 => tGreat c w2)
  have HW1 := HW greatU
  generalize casS greatU s i j = X at *
  generalize (⟨((s.extract i j).data.toList.map greatU).toArray⟩ : ByteArray) = A at *
  exact qt24
theorem lastIB_big (s : ByteArray) (c : Int) (w : World) (hs : s.size ≤ 1000000) :
  Calls Tryz.prog 268 #[.string s, .int .u8 c] w fun e w' => e = .returned (.int .i64 (((Nib.dn (fun i => bt s i != c) s.size : Nat) : Int) - 1)) ∧ w' = w := by
 exact qt23
theorem lastIndexByte_big (s : ByteArray) (c : Int) (w : World) (hs : s.size ≤ 1000000) :
  Calls Tryz.prog 228 #[.string s, .int .u8 c] w fun e w' => e = .returned (.int .i64 (((Nib.dn (fun i => bt s i != c) s.size : Nat) : Int) - 1)) ∧ w' = w := by
 go_enter func228, ntmps228
 go_wp2_with fail
 refine (lastIB_big s c w hs).mono ?_
 rintro e w' ⟨rfl, rfl⟩
 go_wp2
 go_ret
 exact ⟨rfl, rfl⟩
theorem tLine_big (s : ByteArray) (p : Int) (k : Nat) (w : World) (hs : s.size ≤ 1000000) (e : p = k) (hk : k ≤ s.size) :
  qC 195 #[.string s, .int .i64 p] w (.agg #[.int .i64 (beg s k), .int .i64 (fin s k)]) := by
 subst e
 have h1 : (s.extract 0 k).size = k := by rw [ByteArray.size_extract]; omega
 have h2 : (s.extract k s.size).size = s.size - k := by rw [ByteArray.size_extract]; omega
 have HB : Hid (((Nib.dn (fun i => bt (s.extract 0 k) i != 10) (s.extract 0 k).size : Nat) : Int) = beg s k) := by rw [Hid, h1, dn_cut hk]
 have HF : Hid (firstIdx (s.extract k s.size) (10 : Int).toNat.toUInt8 = if fin s k < s.size then ((fin s k : Nat) : Int) - k else -1) := by
  have := fin_ge s k
  rw [Hid, first_up _ 10 qo qo, h2, up_cut hk]
  by_cases h : fin s k < s.size
  ·rw [if_pos h, if_pos qo]; omega
  ·rw [if_neg h, if_neg qo]
 have hbl := beg_le s k
 have hfl := fin_le hk
 have hfg := fin_ge s k
 have HE : ¬ fin s k < s.size → fin s k = s.size := by omega
 generalize beg s k = B at *
 generalize fin s k = F at *
 go_enter func195, ntmps195
 go_wp2_with fail
 refine (lastIndexByte_big (s.extract 0 k) 10 _ qo).mono ?_
 exact qt52
theorem tLast_big (a b : Int) (w : World) (h : -5000000 ≤ b ∧ b ≤ 5000000) :
  qC 202 #[.agg #[.int .i64 (a), .int .i64 (b)]] w (.int .i64 (max a (b - 1))) := by
 exact qt76
theorem tIndent_big (s : ByteArray) (a b : Int) (k : Nat) (w : World) (hs : s.size ≤ 1000000) (hk : k ≤ s.size) (ea : a = beg s k) (eb : b = fin s k) :
  qC 187 #[.string s, .agg #[.int .i64 (a), .int .i64 (b)]] w (.agg #[.int .i64 (beg s k), .int .i64 (ind s k)]) := by
 exact qt17
theorem tFirst_big (s : ByteArray) (a b : Int) (k : Nat) (w : World) (hs : s.size ≤ 1000000) (hk : k ≤ s.size) (ea : a = beg s k) (eb : b = fin s k) :
  qC 243 #[.string s, .agg #[.int .i64 (a), .int .i64 (b)]] w (.int .i64 (frs s k)) := by
 subst ea eb
 have hf := fin_le hk
 have HF := frs_min s k hk
 rw [lst_max] at HF
 have HI : qH 187 #[.string s, .agg #[.int .i64 (beg s k), .int .i64 (fin s k)]] (.agg #[.int .i64 (beg s k), .int .i64 (ind s k)]) := fun ww => tIndent_big s _ _ k ww hs hk rfl rfl
 have HL : qH 202 #[.agg #[.int .i64 (beg s k), .int .i64 (fin s k)]] (.int .i64 (max ((beg s k : Nat) : Int) (((fin s k : Nat) : Int) - 1))) := fun ww => tLast_big _ _ ww qo
 exact qt28
theorem vDo_delete (s : ByteArray) (i j : Nat) (p : Int) (w : World) (hs : s.size ≤ 1000) (h : i ≤ j) (hj : j ≤ s.size) :
  qC 174 #[.int .u8 100, .string s, .agg #[.int .i64 i, .int .i64 j, .bool false], .int .i64 p] w (.tuple #[.string (s.extract 0 i ++ s.extract j s.size), .int .i64 i]) := by
 have HW : qH 218 #[.string s, .agg #[.int .i64 i, .int .i64 j, .bool false]] (.tuple #[.string (s.extract 0 i ++ s.extract j s.size), .int .i64 i]) := fun ww => vWithout_piece s i j ww hs h hj
 generalize s.extract 0 i ++ s.extract j s.size = X at *
 go_enter func174, ntmps174
 go_wp2_with fail
 refine (HW.out _).mono ?_
 rintro e w1 ⟨rfl, h1⟩
 obtain ⟨hc1, hf1, hz1⟩ := qb h1
 try simp at hz1
 go_wp2
 refine bodyPost_ret (v := .tuple #[.string X, .int .i64 i]) (by simp [results, results174, go_sem]) rfl ⟨rfl, ?_⟩
 exact qB
def AnyOk : Prop := ∀ (s : ByteArray) (p : Nat), s.size ≤ 1000 → p ≤ s.size →
 qH 254 #[.string (s.extract p (fin s p)), .string ⟨#[40, 41, 91, 93, 123, 125]⟩] (.int .i64 (brkAt s p))
