/- A part. -/
import Derived.Test.YtlendfhehhacpaaGreatQ27
import Derived.Test.YtlendfhehhacpaaGreatQ30
set_option linter.unusedVariables false
set_option linter.unusedSimpArgs false
set_option maxRecDepth 100000
set_option maxHeartbeats 8000000
namespace Go.Proofs.YtlendfhehhacpaaGreat
open Go.RowKit Nib Tryz
theorem sGo_way (s : ByteArray) (p n : Nat) (key ch : Int) (b : Bool) (w : World) (hs : s.size ≤ 1000) (hp : p ≤ s.size) (hn : n ≤ 99) (hl : p ≤ lst s p) (hk : isPlainWay key = true)
  (HA : qH 254 #[.string (s.extract p (fin s p)), .string ⟨#[40, 41, 91, 93, 123, 125]⟩] (.int .i64 (brkAt s p))) :
  qC 169 #[.int .u8 key, .agg #[.string s, .int .i64 (p), .int .i64 (n), .bool false, .bool false]] w (.tuple #[.agg #[.int .i64 (wayX (goWay s p key ch (max n 1) (decide (0 < n)) false b)), .int .i64 (wayK (goWay s p key ch (max n 1) (decide (0 < n)) false b))], .bool (wayZ (goWay s p key ch (max n 1) (decide (0 < n)) false b))]) := by
 simp only [isPlainWay, Bool.or_eq_true, beq_iff_eq] at hk
 rcases hk with ((((((((((((((((h | h) | h) | h) | h) | h) | h) | h) | h) | h) | h) | h) | h) | h) | h) | h) | h) | h
 all_goals subst h
 ·exact sGo_104 s p n false false w _ (fun ww => sInLine_h s p n false false ww hs hp hn)
 ·exact sGo_108 s p n false false w _ (fun ww => sInLine_l s p n false false ww hs hp hn (by simpa [mostL] using hl))
 ·exact sGo_48 s p n false false w _ (fun ww => sInLine_0 s p n false false ww hs hp)
 ·exact sGo_94 s p n false false w _ (fun ww => sInLine_hat s p n false false ww hs hp)
 ·exact sGo_36 s p n false false w _ (fun ww => sInLine_eol s p n false false ww hs hp hn)
 ·exact sGo_106 s p n false false w _ (fun ww => sToLine_j s p n false false (decide (0 < n)) ww hs hp hn)
 ·exact sGo_107 s p n false false w _ (fun ww => sToLine_k s p n false false (decide (0 < n)) ww hs hp hn)
 ·exact sGo_71 s p n false false w _ (fun ww => sToNumber_any s p n false false 71 ww hs hp hn (Or.inl rfl))
 ·exact sGo_103 s p n false false w _ (fun ww => sToNumber_any s p n false false 103 ww hs hp hn (Or.inr rfl))
 ·exact sGo_119 s p n false false w _ (fun ww => sToWord_plain s p n false ww hs hp hn)
 ·exact sGo_87 s p n false false w _ (fun ww => sToWord_plain s p n true ww hs hp hn)
 ·exact sGo_98 s p n false false w _ (fun ww => sToAhead_any s p n false false false ww hs hp hn)
 ·exact sGo_66 s p n false false w _ (fun ww => sToAhead_any s p n false false true ww hs hp hn)
 ·exact sGo_101 s p n false false w _ (fun ww => sToWordEnd_any s p n false false false ww hs hp hn)
 ·exact sGo_69 s p n false false w _ (fun ww => sToWordEnd_any s p n false false true ww hs hp hn)
 ·exact sGo_125 s p n false false w _ (fun ww => sToPar_any s p n false false true 1 ww hs hp hn rfl)
 ·exact sGo_123 s p n false false w _ (fun ww => sToPar_any s p n false false false (-1) ww hs hp hn rfl)
 ·exact sGo_37 s p n false false w _ (fun ww => sToPartner_gen s p n false false ww hs hp HA)
theorem sFind_go (s : ByteArray) (p n : Nat) (key ch : Int) (given : Bool) (w : World) (hs : s.size ≤ 1000) (hp : p ≤ s.size) (hn : n ≤ 99) (hk : isFind key = true) :
  qC 167 #[.agg #[.int .u8 key, .int .u8 ch], .agg #[.string s, .int .i64 (p), .int .i64 (n), .bool false, .bool false]] w (.tuple #[.agg #[.int .i64 (wayX (goWay s p key ch (max n 1) given false false)), .int .i64 (wayK (goWay s p key ch (max n 1) given false false))], .bool (wayZ (goWay s p key ch (max n 1) given false false))]) := by
 simp only [isFind, Bool.or_eq_true, beq_iff_eq] at hk
 have hk' : isFnd key := by unfold isFnd; omega
 refine sFindGo_gen s p n false false key ch w _ (fun ww => ?_)
 have := sGoFrom_any s p n 1 false false key ch ww hs hp hn qo qo hk'
 rcases hk with ((h | h) | h) | h <;> subst h <;> exact this
theorem sFind_again (s : ByteArray) (p n : Nat) (key ch : Int) (given : Bool) (w : World) (hs : s.size ≤ 1000) (hp : p ≤ s.size) (hn : n ≤ 99) (hk : isFind key = true) :
  qC 183 #[.agg #[.int .u8 key, .int .u8 ch], .agg #[.string s, .int .i64 (p), .int .i64 (n), .bool false, .bool false]] w (.tuple #[.agg #[.int .i64 (wayX (goWay s p key ch (max n 1) given false true)), .int .i64 (wayK (goWay s p key ch (max n 1) given false true))], .bool (wayZ (goWay s p key ch (max n 1) given false true))]) := by
 simp only [isFind, Bool.or_eq_true, beq_iff_eq] at hk
 have hk' : isFnd key := by unfold isFnd; omega
 refine sFindAgain_gen s p n false false key ch w _ (fun ww => ?_)
 have h1 := sGoFrom_any s p n 1 false false key ch ww hs hp hn qo qo hk'
 have h2 := sGoFrom_any s p n 2 false false key ch ww hs hp hn qo qo hk'
 rcases hk with ((h | h) | h) | h <;> subst h
 ·exact h1
 ·exact h2
 ·exact h1
 ·exact h2
theorem sFind_again0 (s : ByteArray) (p n : Int) (ch : Int) (w : World) :
  qC 183 #[.agg #[.int .u8 0, .int .u8 ch], .agg #[.string s, .int .i64 (p), .int .i64 (n), .bool false, .bool false]] w (.tuple #[.agg #[.int .i64 (wayX (((0 : Int), (0 : Int), true))), .int .i64 (wayK (((0 : Int), (0 : Int), true)))], .bool (wayZ (((0 : Int), (0 : Int), true)))]) :=
 sFindAgain_gen s p n false false 0 ch w _ (fun ww => sGoFrom_none s p n _ ch false false ww)
theorem sTurned_any (key ch : Int) (w : World) (hk : key = 0 ∨ isFind key = true) :
  qC 184 #[.agg #[.int .u8 key, .int .u8 ch]] w (.agg #[.int .u8 (flp key), .int .u8 ch]) := by
 simp only [isFind, Bool.or_eq_true, beq_iff_eq] at hk
 rcases hk with h | ((h | h) | h) | h <;> subst h
 ·exact sTurned_0 ch w
 ·exact sTurned_102 ch w
 ·exact sTurned_116 ch w
 ·exact sTurned_70 ch w
 ·exact sTurned_84 ch w
theorem sGo_wayV (s : ByteArray) (p n : Nat) (key ch : Int) (b : Bool) (w : World) (hs : s.size ≤ 1000) (hp : p ≤ s.size) (hn : n ≤ 99) (hk : isPlainWay key = true)
  (HA : qH 254 #[.string (s.extract p (fin s p)), .string ⟨#[40, 41, 91, 93, 123, 125]⟩] (.int .i64 (brkAt s p))) :
  qC 169 #[.int .u8 key, .agg #[.string s, .int .i64 (p), .int .i64 (n), .bool true, .bool false]] w (.tuple #[.agg #[.int .i64 (wayX (goWay s p key ch (max n 1) (decide (0 < n)) true b)), .int .i64 (wayK (goWay s p key ch (max n 1) (decide (0 < n)) true b))], .bool (wayZ (goWay s p key ch (max n 1) (decide (0 < n)) true b))]) := by
 simp only [isPlainWay, Bool.or_eq_true, beq_iff_eq] at hk
 rcases hk with ((((((((((((((((h | h) | h) | h) | h) | h) | h) | h) | h) | h) | h) | h) | h) | h) | h) | h) | h) | h
 all_goals subst h
 ·exact sGo_104 s p n true false w _ (fun ww => sInLine_h s p n true false ww hs hp hn)
 ·exact sGo_108 s p n true false w _ (fun ww => sInLine_l s p n true false ww hs hp hn (by simp only [mostL, if_true]; exact fin_ge s p))
 ·exact sGo_48 s p n true false w _ (fun ww => sInLine_0 s p n true false ww hs hp)
 ·exact sGo_94 s p n true false w _ (fun ww => sInLine_hat s p n true false ww hs hp)
 ·exact sGo_36 s p n true false w _ (fun ww => sInLine_eol s p n true false ww hs hp hn)
 ·exact sGo_106 s p n true false w _ (fun ww => sToLine_j s p n true false (decide (0 < n)) ww hs hp hn)
 ·exact sGo_107 s p n true false w _ (fun ww => sToLine_k s p n true false (decide (0 < n)) ww hs hp hn)
 ·exact sGo_71 s p n true false w _ (fun ww => sToNumber_any s p n true false 71 ww hs hp hn (Or.inl rfl))
 ·exact sGo_103 s p n true false w _ (fun ww => sToNumber_any s p n true false 103 ww hs hp hn (Or.inr rfl))
 ·exact sGo_119 s p n true false w _ (fun ww => sToWord_verb s p n false ww hs hp hn)
 ·exact sGo_87 s p n true false w _ (fun ww => sToWord_verb s p n true ww hs hp hn)
 ·exact sGo_98 s p n true false w _ (fun ww => sToAhead_any s p n true false false ww hs hp hn)
 ·exact sGo_66 s p n true false w _ (fun ww => sToAhead_any s p n true false true ww hs hp hn)
 ·exact sGo_101 s p n true false w _ (fun ww => sToWordEnd_any s p n true false false ww hs hp hn)
 ·exact sGo_69 s p n true false w _ (fun ww => sToWordEnd_any s p n true false true ww hs hp hn)
 ·exact sGo_125 s p n true false w _ (fun ww => sToPar_any s p n true false true 1 ww hs hp hn rfl)
 ·exact sGo_123 s p n true false w _ (fun ww => sToPar_any s p n true false false (-1) ww hs hp hn rfl)
 ·exact sGo_37 s p n true false w _ (fun ww => sToPartner_gen s p n true false ww hs hp HA)
theorem sFind_goV (s : ByteArray) (p n : Nat) (key ch : Int) (given : Bool) (w : World) (hs : s.size ≤ 1000) (hp : p ≤ s.size) (hn : n ≤ 99) (hk : isFind key = true) :
  qC 167 #[.agg #[.int .u8 key, .int .u8 ch], .agg #[.string s, .int .i64 (p), .int .i64 (n), .bool true, .bool false]] w (.tuple #[.agg #[.int .i64 (wayX (goWay s p key ch (max n 1) given true false)), .int .i64 (wayK (goWay s p key ch (max n 1) given true false))], .bool (wayZ (goWay s p key ch (max n 1) given true false))]) := by
 simp only [isFind, Bool.or_eq_true, beq_iff_eq] at hk
 have hk' : isFnd key := by unfold isFnd; omega
 refine sFindGo_gen s p n true false key ch w _ (fun ww => ?_)
 have := sGoFrom_any s p n 1 true false key ch ww hs hp hn qo qo hk'
 rcases hk with ((h | h) | h) | h <;> subst h <;> exact this
theorem sFind_againV (s : ByteArray) (p n : Nat) (key ch : Int) (given : Bool) (w : World) (hs : s.size ≤ 1000) (hp : p ≤ s.size) (hn : n ≤ 99) (hk : isFind key = true) :
  qC 183 #[.agg #[.int .u8 key, .int .u8 ch], .agg #[.string s, .int .i64 (p), .int .i64 (n), .bool true, .bool false]] w (.tuple #[.agg #[.int .i64 (wayX (goWay s p key ch (max n 1) given true true)), .int .i64 (wayK (goWay s p key ch (max n 1) given true true))], .bool (wayZ (goWay s p key ch (max n 1) given true true))]) := by
 simp only [isFind, Bool.or_eq_true, beq_iff_eq] at hk
 have hk' : isFnd key := by unfold isFnd; omega
 refine sFindAgain_gen s p n true false key ch w _ (fun ww => ?_)
 have h1 := sGoFrom_any s p n 1 true false key ch ww hs hp hn qo qo hk'
 have h2 := sGoFrom_any s p n 2 true false key ch ww hs hp hn qo qo hk'
 rcases hk with ((h | h) | h) | h <;> subst h
 ·exact h1
 ·exact h2
 ·exact h1
 ·exact h2
theorem sFind_again0V (s : ByteArray) (p n : Int) (ch : Int) (w : World) :
  qC 183 #[.agg #[.int .u8 0, .int .u8 ch], .agg #[.string s, .int .i64 (p), .int .i64 (n), .bool true, .bool false]] w (.tuple #[.agg #[.int .i64 (wayX (((0 : Int), (0 : Int), true))), .int .i64 (wayK (((0 : Int), (0 : Int), true)))], .bool (wayZ (((0 : Int), (0 : Int), true)))]) :=
 sFindAgain_gen s p n true false 0 ch w _ (fun ww => sGoFrom_none s p n _ ch true false ww)
