/- A part. -/
import Derived.Test.YtlendfhehhacpaaGreatP27
import Derived.Test.YtlendfhehhacpaaGreatP22
import Derived.Test.YtlendfhehhacpaaGreatP26
import Derived.Test.YtlendfhehhacpaaGreatP23
set_option linter.unusedVariables false
set_option linter.unusedSimpArgs false
set_option maxRecDepth 100000
set_option maxHeartbeats 8000000
namespace Go.Proofs.YtlendfhehhacpaaGreat
open Go.RowKit
theorem sWordEnd_any (s : ByteArray) (r : Nat) (g : Bool) (w : World) (hs : s.size ≤ 1000) (hr : r ≤ s.size) :
  qC 252 #[.string s, .int .i64 r, .bool g] w (.int .i64 (Nib.wes s g r)) := by
 by_cases he : r = s.size
 ·subst he
  rw [Nib.wes_end]
  go_enter Tryz.func252, Tryz.ntmps252
  go_wp2_with fail
  refine (tEnd_any s _).mono ?_
  rintro e w' ⟨rfl, rfl⟩
  go_wp2
  all_goals
   first
    | (exact qV (.int .i64 s.size) (by simp [results, Tryz.results252, go_sem]) rfl)
 ·have hlt : r < s.size := by omega
  have HI : qH 282 #[.string s, .int .i64 ((r : Int) + 1), .bool false] (.int .i64 (Nib.up (Nib.sp s) s.size (r + 1) : Nat)) := by
   intro ww
   refine sNextInk_any s (r + 1) false (Nib.sp s) ww hs qo ?_ ?_ ?_
   ·intro i h; exact h
   ·intro i _ _ h _; exact h
   ·intro h; exact absurd h qi
  have hle : Nib.up (Nib.sp s) s.size (r + 1) ≤ s.size := Nib.up_le qo
  rw [Nib.wes_eq hlt]
  have hne : ((r : Int) == (s.size : Int)) = false := by simp; omega
  clear he
  by_cases hq : Nib.up (Nib.sp s) s.size (r + 1) = s.size
  ·rw [if_pos hq]
   rw [hq] at HI
   clear hq hle
   go_enter Tryz.func252, Tryz.ntmps252
   go_wp2_with fail
   refine (tEnd_any s _).mono ?_
   rintro e w' ⟨rfl, rfl⟩
   go_wp2_with fail
   refine (HI.out _).mono ?_
   rintro e w1 ⟨rfl, h1⟩
   obtain ⟨hc1, hf1, hz1⟩ := qb h1
   try simp at hz1
   go_wp2_with fail
   refine (tEnd_any s _).mono ?_
   rintro e w' ⟨rfl, rfl⟩
   go_wp2
   all_goals
    first
     | (exact qV (.int .i64 r) (by simp [results, Tryz.results252, go_sem]) rfl)
  ·rw [if_neg hq]
   have hql : Nib.up (Nib.sp s) s.size (r + 1) < s.size := by omega
   have hsp : Nib.sp s (Nib.up (Nib.sp s) s.size (r + 1)) = false := Nib.up_end hql
   generalize Nib.up (Nib.sp s) s.size (r + 1) = q at *
   have hnl : Nib.bt s q ≠ 10 := by have := Nib.spc_nl_f (s := s) (i := q) hsp; unfold Nib.nl at this; simpa using this
   have HR : qH 256 #[.string s, .int .i64 q, .bool g] (.agg #[.int .i64 (Nib.runB s q g), .int .i64 (Nib.wrun s q g)]) := fun ww => tRun_any s q q g ww hs rfl hql hnl
   have hgt := Nib.wrun_gt (g := g) hql
   have hwl := Nib.wrun_le (g := g) (show q ≤ s.size by omega)
   have hx := ix1 (Nib.runB s q g) (Nib.wrun s q g)
   clear hsp hnl
   generalize Nib.runB s q g = A at *
   generalize Nib.wrun s q g = B at *
   have hne2 : ((q : Int) == (s.size : Int)) = false := by simp; omega
   go_enter Tryz.func252, Tryz.ntmps252
   go_wp2_with fail
   refine (tEnd_any s _).mono ?_
   rintro e w' ⟨rfl, rfl⟩
   go_wp2_with fail
   refine (HI.out _).mono ?_
   rintro e w1 ⟨rfl, h1⟩
   obtain ⟨hc1, hf1, hz1⟩ := qb h1
   try simp at hz1
   go_wp2_with fail
   refine (tEnd_any s _).mono ?_
   rintro e w' ⟨rfl, rfl⟩
   go_wp2_with fail
   refine (HR.out _).mono ?_
   rintro e w2 ⟨rfl, h2⟩
   obtain ⟨hc2, hf2, hz2⟩ := qb h2
   try simp at hz2
   go_wp2
   all_goals
    first
     | (exact qV (.int .i64 ((B : Int) - 1)) (by simp [results, Tryz.results252, go_sem]) (ret_int qo))
theorem sToWordEnd_any (s : ByteArray) (p n : Nat) (v c g : Bool) (w : World) (hs : s.size ≤ 1000) (hp : p ≤ s.size) (hn : n ≤ 99) :
  qC 210 #[.agg #[.string s, .int .i64 (p), .int .i64 (n), .bool v, .bool c], .bool g] w (.tuple #[.agg #[.int .i64 (wayX (Nib.endWay s g (max n 1) (p : Int))), .int .i64 (wayK (Nib.endWay s g (max n 1) (p : Int)))], .bool (wayZ (Nib.endWay s g (max n 1) (p : Int)))]) := by
 have HP : Hid (∀ (q : Nat), q ≤ s.size → ∀ ww, qC 252 #[.string s, .int .i64 q, .bool g] ww (.int .i64 (Nib.wes s g q))) := fun q hq ww => sWordEnd_any s q g ww hs hq
 have HN : qH 241 #[.agg #[.string s, .int .i64 (p), .int .i64 (n), .bool v, .bool c]] (.int .i64 ((max n 1 : Nat) : Int)) := by
  exact qt45
 have hN1 : 1 ≤ max n 1 := by omega
 have hN2 : max n 1 ≤ 99 := by omega
 generalize max n 1 = N at *
 have HU : qH 240 #[.agg #[.string s, .int .i64 (p), .int .i64 (n), .bool v, .bool c], .int .i64 (Nib.itr (Nib.wes s g) N p : Nat), .int .i64 1] (.tuple #[.agg #[.int .i64 (wayX (Nib.endWay s g N (p : Int))), .int .i64 (wayK (Nib.endWay s g N (p : Int)))], .bool (wayZ (Nib.endWay s g N (p : Int)))]) := by
  intro ww
  refine sUnless_way s p n _ 1 v c ww ?_
  have := Nib.endWay_itr s g p N hN1
  exact ⟨this.1.symm, fun h => ⟨(this.2 (this.1.trans h)).1.symm, (this.2 (this.1.trans h)).2.symm⟩⟩
 generalize Nib.endWay s g N (p : Int) = R at *
 go_enter Tryz.func210, Tryz.ntmps210
 have F : Five ((w.alloc (.cells #[.string s, .int .i64 (p), .int .i64 (n), .bool v, .bool c] 206)).alloc (.cells #[.int .i64 0, .int .i64 0] 202)) w.heap.size s p n v c := Five.alloc (Five.new _ _ _ _ _ _ _) _
 have RB : Two ((w.alloc (.cells #[.string s, .int .i64 (p), .int .i64 (n), .bool v, .bool c] 206)).alloc (.cells #[.int .i64 0, .int .i64 0] 202)) (w.heap.size + 1) 0 0 := qN
 go_wp2_with fail
 refine (HN.out _).mono ?_
 rintro r1 w1 ⟨rfl, h1⟩
 obtain ⟨hc1, hf1, hz1⟩ := qb h1
 (try simp at hz1)
 have F1 : Five w1 (w.heap.size) s p n v c := qF
 have ⟨F1_0, F1_1, F1_2, F1_3, F1_4, F1_z, F1_l⟩ := F1
 have RB1 : Two w1 (w.heap.size + 1) (0) (0) := qTw
 have ⟨RB1_0, RB1_1, RB1_z, RB1_l⟩ := RB1
 go_wp2
 go_loopw [6, 11] (fun q i wr => ∃ k : Nat, k ≤ N ∧ q = .int .i64 (Nib.itr (Nib.wes s g) k p : Nat) ∧ i = .int .i64 k ∧ Five wr w.heap.size s p n v c ∧ Two wr (w.heap.size + 1) 0 0 ∧ Below w.heap.size w wr) (fun _ i _ => N - (intOf i).toNat)
 case atStart =>
  refine ⟨0, by omega, rfl, rfl, F1, RB1, ?_⟩
  repeat exact qB
 case round =>
  clear F RB h1 hc1 hf1 F1_0 F1_1 F1_2 F1_3 F1_4 F1_z F1_l RB1_0 RB1_1 RB1_z RB1_l
  obtain ⟨k, hk, rfl, rfl, F, RB, hB⟩ := hrel
  have hq := Nib.itr_wes_le (g := g) hp k
  have ⟨f0, f1, f2, f3, f4, fz, fl⟩ := F
  have r0 := (RB).c0
  have r1 := (RB).c1
  have rz := (RB).fz
  have rl := (RB).lt
  have hzz := hB.size
  by_cases hlt : k < N
  ·have HS : qH 252 #[.string s, .int .i64 (Nib.itr (Nib.wes s g) k p : Nat), .bool g] (.int .i64 (Nib.itr (Nib.wes s g) (k + 1) p : Nat)) := fun ww => HP.out _ hq ww
   generalize hA : Nib.itr (Nib.wes s g) (k + 1) p = A at *
   exact qt34
  ·have ek : k = N := by omega
   subst ek
   generalize Nib.itr (Nib.wes s g) k p = A at *
   go_wp2_with fail
   refine (HU.out _).mono ?_
   rintro r2 w2 ⟨rfl, h2⟩
   obtain ⟨hc2, hf2, hz2⟩ := qb h2
   (try simp at hz2)
   have RB2 : Two w2 (w.heap.size + 1) (0) (0) := qTw
   have ⟨RB2_0, RB2_1, RB2_z, RB2_l⟩ := RB2
   go_wp2
   all_goals
    first
     | (exact qV (.tuple #[.agg #[.int .i64 (wayX (R)), .int .i64 (wayK (R))], .bool (wayZ (R))]) (by simp [results, Tryz.results210, go_sem, RB2_0, RB2_1, RB2_z, RB2_l]) rfl)
theorem sGo_way (s : ByteArray) (p n : Nat) (key ch : Int) (b : Bool) (w : World) (hs : s.size ≤ 1000) (hp : p ≤ s.size) (hn : n ≤ 99) (hl : p ≤ Nib.lst s p) (hk : isPlainWay key = true)
  (HA : qH 254 #[.string (s.extract p (Nib.fin s p)), .string ⟨#[40, 41, 91, 93, 123, 125]⟩] (.int .i64 (brkAt s p))) :
  qC 169 #[.int .u8 key, .agg #[.string s, .int .i64 (p), .int .i64 (n), .bool false, .bool false]] w (.tuple #[.agg #[.int .i64 (wayX (Nib.goWay s p key ch (max n 1) (decide (0 < n)) false b)), .int .i64 (wayK (Nib.goWay s p key ch (max n 1) (decide (0 < n)) false b))], .bool (wayZ (Nib.goWay s p key ch (max n 1) (decide (0 < n)) false b))]) := by
 simp only [isPlainWay, Bool.or_eq_true, beq_iff_eq] at hk
 rcases hk with ((((((((((((((((h | h) | h) | h) | h) | h) | h) | h) | h) | h) | h) | h) | h) | h) | h) | h) | h) | h
 all_goals subst h
 ·exact sGo_104 s p n false false w _ (fun ww => sInLine_h s p n false false ww hs hp hn)
 ·exact sGo_108 s p n false false w _ (fun ww => sInLine_l s p n false false ww hs hp hn (by simpa [Nib.mostL] using hl))
 ·exact sGo_48 s p n false false w _ (fun ww => sInLine_0 s p n false false ww hs hp)
 ·exact sGo_94 s p n false false w _ (fun ww => sInLine_hat s p n false false ww hs hp)
 ·exact sGo_36 s p n false false w _ (fun ww => sInLine_eol s p n false false ww hs hp hn)
 ·exact sGo_106 s p n false false w _ (fun ww => sToLine_j s p n false false (decide (0 < n)) ww hs hp hn)
 ·exact sGo_107 s p n false false w _ (fun ww => sToLine_k s p n false false (decide (0 < n)) ww hs hp hn)
 ·exact sGo_71 s p n false false w _ (fun ww => sToNumber_any s p n false false 71 ww hs hp hn (Or.inl rfl))
 ·exact sGo_103 s p n false false w _ (fun ww => sToNumber_any s p n false false 103 ww hs hp hn (Or.inr rfl))
 ·exact sGo_119 s p n false false w _ (fun ww => sToWord_plain s p n false ww hs hp hn)
 ·exact sGo_87 s p n false false w _ (fun ww => sToWord_plain s p n true ww hs hp hn)
 ·exact sGo_98 s p n false false w _ (fun ww => sToAhead_any s p n false false false ww hs hp hn)
 ·exact sGo_66 s p n false false w _ (fun ww => sToAhead_any s p n false false true ww hs hp hn)
 ·exact sGo_101 s p n false false w _ (fun ww => sToWordEnd_any s p n false false false ww hs hp hn)
 ·exact sGo_69 s p n false false w _ (fun ww => sToWordEnd_any s p n false false true ww hs hp hn)
 ·exact sGo_125 s p n false false w _ (fun ww => sToPar_any s p n false false true 1 ww hs hp hn rfl)
 ·exact sGo_123 s p n false false w _ (fun ww => sToPar_any s p n false false false (-1) ww hs hp hn rfl)
 ·exact sGo_37 s p n false false w _ (fun ww => sToPartner_gen s p n false false ww hs hp HA)
theorem sFind_go (s : ByteArray) (p n : Nat) (key ch : Int) (given : Bool) (w : World) (hs : s.size ≤ 1000) (hp : p ≤ s.size) (hn : n ≤ 99) (hk : Nib.isFind key = true) :
  qC 167 #[.agg #[.int .u8 key, .int .u8 ch], .agg #[.string s, .int .i64 (p), .int .i64 (n), .bool false, .bool false]] w (.tuple #[.agg #[.int .i64 (wayX (Nib.goWay s p key ch (max n 1) given false false)), .int .i64 (wayK (Nib.goWay s p key ch (max n 1) given false false))], .bool (wayZ (Nib.goWay s p key ch (max n 1) given false false))]) := by
 simp only [Nib.isFind, Bool.or_eq_true, beq_iff_eq] at hk
 have hk' : isFnd key := by unfold isFnd; omega
 refine sFindGo_gen s p n false false key ch w _ (fun ww => ?_)
 have := sGoFrom_any s p n 1 false false key ch ww hs hp hn qo qo hk'
 rcases hk with ((h | h) | h) | h <;> subst h <;> exact this
theorem sFind_again (s : ByteArray) (p n : Nat) (key ch : Int) (given : Bool) (w : World) (hs : s.size ≤ 1000) (hp : p ≤ s.size) (hn : n ≤ 99) (hk : Nib.isFind key = true) :
  qC 183 #[.agg #[.int .u8 key, .int .u8 ch], .agg #[.string s, .int .i64 (p), .int .i64 (n), .bool false, .bool false]] w (.tuple #[.agg #[.int .i64 (wayX (Nib.goWay s p key ch (max n 1) given false true)), .int .i64 (wayK (Nib.goWay s p key ch (max n 1) given false true))], .bool (wayZ (Nib.goWay s p key ch (max n 1) given false true))]) := by
 simp only [Nib.isFind, Bool.or_eq_true, beq_iff_eq] at hk
 have hk' : isFnd key := by unfold isFnd; omega
 refine sFindAgain_gen s p n false false key ch w _ (fun ww => ?_)
 have h1 := sGoFrom_any s p n 1 false false key ch ww hs hp hn qo qo hk'
 have h2 := sGoFrom_any s p n 2 false false key ch ww hs hp hn qo qo hk'
 rcases hk with ((h | h) | h) | h <;> subst h
 ·exact h1
 ·exact h2
 ·exact h1
 ·exact h2
theorem sFind_again0 (s : ByteArray) (p n : Int) (ch : Int) (w : World) :
  qC 183 #[.agg #[.int .u8 0, .int .u8 ch], .agg #[.string s, .int .i64 (p), .int .i64 (n), .bool false, .bool false]] w (.tuple #[.agg #[.int .i64 (wayX (((0 : Int), (0 : Int), true))), .int .i64 (wayK (((0 : Int), (0 : Int), true)))], .bool (wayZ (((0 : Int), (0 : Int), true)))]) :=
 sFindAgain_gen s p n false false 0 ch w _ (fun ww => sGoFrom_none s p n _ ch false false ww)
theorem sTurned_any (key ch : Int) (w : World) (hk : key = 0 ∨ Nib.isFind key = true) :
  qC 184 #[.agg #[.int .u8 key, .int .u8 ch]] w (.agg #[.int .u8 (Nib.flp key), .int .u8 ch]) := by
 simp only [Nib.isFind, Bool.or_eq_true, beq_iff_eq] at hk
 rcases hk with h | ((h | h) | h) | h <;> subst h
 ·exact sTurned_0 ch w
 ·exact sTurned_102 ch w
 ·exact sTurned_116 ch w
 ·exact sTurned_70 ch w
 ·exact sTurned_84 ch w
theorem sGo_wayV (s : ByteArray) (p n : Nat) (key ch : Int) (b : Bool) (w : World) (hs : s.size ≤ 1000) (hp : p ≤ s.size) (hn : n ≤ 99) (hk : isPlainWay key = true)
  (HA : qH 254 #[.string (s.extract p (Nib.fin s p)), .string ⟨#[40, 41, 91, 93, 123, 125]⟩] (.int .i64 (brkAt s p))) :
  qC 169 #[.int .u8 key, .agg #[.string s, .int .i64 (p), .int .i64 (n), .bool true, .bool false]] w (.tuple #[.agg #[.int .i64 (wayX (Nib.goWay s p key ch (max n 1) (decide (0 < n)) true b)), .int .i64 (wayK (Nib.goWay s p key ch (max n 1) (decide (0 < n)) true b))], .bool (wayZ (Nib.goWay s p key ch (max n 1) (decide (0 < n)) true b))]) := by
 simp only [isPlainWay, Bool.or_eq_true, beq_iff_eq] at hk
 rcases hk with ((((((((((((((((h | h) | h) | h) | h) | h) | h) | h) | h) | h) | h) | h) | h) | h) | h) | h) | h) | h
 all_goals subst h
 ·exact sGo_104 s p n true false w _ (fun ww => sInLine_h s p n true false ww hs hp hn)
 ·exact sGo_108 s p n true false w _ (fun ww => sInLine_l s p n true false ww hs hp hn (by simp only [Nib.mostL, if_true]; exact Nib.fin_ge s p))
 ·exact sGo_48 s p n true false w _ (fun ww => sInLine_0 s p n true false ww hs hp)
 ·exact sGo_94 s p n true false w _ (fun ww => sInLine_hat s p n true false ww hs hp)
 ·exact sGo_36 s p n true false w _ (fun ww => sInLine_eol s p n true false ww hs hp hn)
 ·exact sGo_106 s p n true false w _ (fun ww => sToLine_j s p n true false (decide (0 < n)) ww hs hp hn)
 ·exact sGo_107 s p n true false w _ (fun ww => sToLine_k s p n true false (decide (0 < n)) ww hs hp hn)
 ·exact sGo_71 s p n true false w _ (fun ww => sToNumber_any s p n true false 71 ww hs hp hn (Or.inl rfl))
 ·exact sGo_103 s p n true false w _ (fun ww => sToNumber_any s p n true false 103 ww hs hp hn (Or.inr rfl))
 ·exact sGo_119 s p n true false w _ (fun ww => sToWord_verb s p n false ww hs hp hn)
 ·exact sGo_87 s p n true false w _ (fun ww => sToWord_verb s p n true ww hs hp hn)
 ·exact sGo_98 s p n true false w _ (fun ww => sToAhead_any s p n true false false ww hs hp hn)
 ·exact sGo_66 s p n true false w _ (fun ww => sToAhead_any s p n true false true ww hs hp hn)
 ·exact sGo_101 s p n true false w _ (fun ww => sToWordEnd_any s p n true false false ww hs hp hn)
 ·exact sGo_69 s p n true false w _ (fun ww => sToWordEnd_any s p n true false true ww hs hp hn)
 ·exact sGo_125 s p n true false w _ (fun ww => sToPar_any s p n true false true 1 ww hs hp hn rfl)
 ·exact sGo_123 s p n true false w _ (fun ww => sToPar_any s p n true false false (-1) ww hs hp hn rfl)
 ·exact sGo_37 s p n true false w _ (fun ww => sToPartner_gen s p n true false ww hs hp HA)
theorem sFind_goV (s : ByteArray) (p n : Nat) (key ch : Int) (given : Bool) (w : World) (hs : s.size ≤ 1000) (hp : p ≤ s.size) (hn : n ≤ 99) (hk : Nib.isFind key = true) :
  qC 167 #[.agg #[.int .u8 key, .int .u8 ch], .agg #[.string s, .int .i64 (p), .int .i64 (n), .bool true, .bool false]] w (.tuple #[.agg #[.int .i64 (wayX (Nib.goWay s p key ch (max n 1) given true false)), .int .i64 (wayK (Nib.goWay s p key ch (max n 1) given true false))], .bool (wayZ (Nib.goWay s p key ch (max n 1) given true false))]) := by
 simp only [Nib.isFind, Bool.or_eq_true, beq_iff_eq] at hk
 have hk' : isFnd key := by unfold isFnd; omega
 refine sFindGo_gen s p n true false key ch w _ (fun ww => ?_)
 have := sGoFrom_any s p n 1 true false key ch ww hs hp hn qo qo hk'
 rcases hk with ((h | h) | h) | h <;> subst h <;> exact this
theorem sFind_againV (s : ByteArray) (p n : Nat) (key ch : Int) (given : Bool) (w : World) (hs : s.size ≤ 1000) (hp : p ≤ s.size) (hn : n ≤ 99) (hk : Nib.isFind key = true) :
  qC 183 #[.agg #[.int .u8 key, .int .u8 ch], .agg #[.string s, .int .i64 (p), .int .i64 (n), .bool true, .bool false]] w (.tuple #[.agg #[.int .i64 (wayX (Nib.goWay s p key ch (max n 1) given true true)), .int .i64 (wayK (Nib.goWay s p key ch (max n 1) given true true))], .bool (wayZ (Nib.goWay s p key ch (max n 1) given true true))]) := by
 simp only [Nib.isFind, Bool.or_eq_true, beq_iff_eq] at hk
 have hk' : isFnd key := by unfold isFnd; omega
 refine sFindAgain_gen s p n true false key ch w _ (fun ww => ?_)
 have h1 := sGoFrom_any s p n 1 true false key ch ww hs hp hn qo qo hk'
 have h2 := sGoFrom_any s p n 2 true false key ch ww hs hp hn qo qo hk'
 rcases hk with ((h | h) | h) | h <;> subst h
 ·exact h1
 ·exact h2
 ·exact h1
 ·exact h2
theorem sFind_again0V (s : ByteArray) (p n : Int) (ch : Int) (w : World) :
  qC 183 #[.agg #[.int .u8 0, .int .u8 ch], .agg #[.string s, .int .i64 (p), .int .i64 (n), .bool true, .bool false]] w (.tuple #[.agg #[.int .i64 (wayX (((0 : Int), (0 : Int), true))), .int .i64 (wayK (((0 : Int), (0 : Int), true)))], .bool (wayZ (((0 : Int), (0 : Int), true)))]) :=
 sFindAgain_gen s p n true false 0 ch w _ (fun ww => sGoFrom_none s p n _ ch true false ww)
theorem vDo_delete (s : ByteArray) (i j : Nat) (p : Int) (w : World) (hs : s.size ≤ 1000) (h : i ≤ j) (hj : j ≤ s.size) :
  qC 174 #[.int .u8 100, .string s, .agg #[.int .i64 i, .int .i64 j, .bool false], .int .i64 p] w (.tuple #[.string (s.extract 0 i ++ s.extract j s.size), .int .i64 i]) := by
 have HW : qH 218 #[.string s, .agg #[.int .i64 i, .int .i64 j, .bool false]] (.tuple #[.string (s.extract 0 i ++ s.extract j s.size), .int .i64 i]) := fun ww => vWithout_piece s i j ww hs h hj
 generalize s.extract 0 i ++ s.extract j s.size = X at *
 go_enter Tryz.func174, Tryz.ntmps174
 go_wp2_with fail
 refine (HW.out _).mono ?_
 rintro e w1 ⟨rfl, h1⟩
 obtain ⟨hc1, hf1, hz1⟩ := qb h1
 try simp at hz1
 go_wp2
 refine bodyPost_ret (v := .tuple #[.string X, .int .i64 i]) (by simp [results, Tryz.results174, go_sem]) rfl ⟨rfl, ?_⟩
 repeat (with_reducible first | exact Below.refl _ _ | refine b_s ?_ _ | refine b_a ?_ _ | refine Below.drew ?_ | refine below_drewN ?_ _ | refine b_t ?_ h1)
theorem RgAt.new {w : World} {m k : Nat} (h : w.heap[m]? = some (.map #[] k)) : RgAt w m (fun _ => .agg #[.string ⟨#[]⟩, .bool false]) :=
 ⟨#[], k, h, by simp [RgOk], fun d => by simp [rgFind, rgVal]⟩
theorem RgAt.look {w : World} {m : Nat} {f : Int → Value} (h : RgAt w m f) (c : Int) : (Instr.lookup 90 (.map (some m)) (.int .u8 c) false).run Tryz.prog w = .ok (f c) w := by
 obtain ⟨es, k, h1, h2, h3⟩ := h.out
 rw [rg_look m k c es w h1 h2, h3]
theorem bRegister_at (b r d m : Nat) (tv : Value) (dg : ByteArray) (p : Pg) (c : Int) (f : Int → Value) (t : ByteArray) (l : Bool) (w : World) (hb : BdAt w b r d tv dg) (h : RdAt w r d p) (hm : p.regs = .map (some m)) (hg : RgAt w m f) (hf : f c = .agg #[.string t, .bool l]) :
  qC 32 #[.pointer (some ⟨b, 0, none⟩), .int .u8 c] w (.tuple #[.string t, .bool l]) := by
 have c4 := h.dk.c4
 rw [hm] at c4
 have b0 := hb.c0
 have r0 := h.bg.c0
 have bl := hb.lt
 have rl := h.bg.lt
 have dl := h.dk.lt
 have l1 : d < w.heap.size + 1 := by omega
 have l2 : r < w.heap.size + 1 := by omega
 have l3 : b < w.heap.size + 1 := by omega
 clear hb h
 have hlk := hg.look c
 rw [hf] at hlk
 clear hg hf
 go_enter Tryz.func32, Tryz.ntmps32
 go_wp2_with fail
 go_region_held3 (fun ww => ww.cell? ⟨w.heap.size, 0, none⟩ = some (.string t) ∧ ww.cell? ⟨w.heap.size, 1, none⟩ = some (.bool l)) (exact qK) (fail)
 go_wp2
 go_ret2
 refine ⟨rfl, ?_⟩
 repeat exact qB
theorem nRegister_at (q b r d m : Nat) (tv : Value) (dg : ByteArray) (p : Pg) (c : Int) (f : Int → Value) (t : ByteArray) (l : Bool) (w : World) (hq : w.cell? ⟨q, 0, none⟩ = some (.pointer (some ⟨b, 0, none⟩))) (hb : BdAt w b r d tv dg) (h : RdAt w r d p) (hm : p.regs = .map (some m)) (hg : RgAt w m f) (hf : f c = .agg #[.string t, .bool l]) :
  qC 20 #[.pointer (some ⟨q, 0, none⟩), .int .u8 c] w (.tuple #[.string t, .bool l]) := by
 have HS : Hid (∀ ww, ww = w → qC 32 #[.pointer (some ⟨b, 0, none⟩), .int .u8 c] ww (.tuple #[.string t, .bool l])) := fun ww h1 => by subst h1; exact bRegister_at b r d m tv dg p c f t l ww hb h hm hg hf
 clear hb h hm hg hf
 go_enter Tryz.func20, Tryz.ntmps20
 go_wp2_with fail
 refine Calls.mono (HS.out _ rfl) ?_
 rintro e w1 ⟨rfl, h1⟩
 go_wp2
 go_ret2
 exact ⟨rfl, h1⟩
theorem tSeekE_any (s : ByteArray) (cl op : Int) (q d : Nat) (w : World) (hs : s.size ≤ 1000) (hq : q ≤ s.size) (hd : d ≤ 1) (hd0 : 1 ≤ d ∨ Nib.bt s q = cl) (hc : (cl = 41 ∧ op = 40) ∨ (cl = 93 ∧ op = 91) ∨ (cl = 125 ∧ op = 123)) :
  qC 287 #[.string s, .int .u8 cl, .int .i64 q, .int .i64 d] w (.tuple #[.int .i64 (mtI (Nib.mtD s cl op d (q + 1))), .bool (mtB (Nib.mtD s cl op d (q + 1)))]) := by
 rcases hc with ⟨rfl, rfl⟩ | ⟨rfl, rfl⟩ | ⟨rfl, rfl⟩
 ·exact tSeekE_41 s q d w hs hq hd hd0
 ·exact tSeekE_93 s q d w hs hq hd hd0
 ·exact tSeekE_125 s q d w hs hq hd hd0
def BrK (key : Int) (ki : Nat) (cl op : Int) : Prop := (key = 40 ∧ ki = 0 ∧ cl = 41 ∧ op = 40) ∨ (key = 41 ∧ ki = 1 ∧ cl = 41 ∧ op = 40) ∨ (key = 91 ∧ ki = 2 ∧ cl = 93 ∧ op = 91) ∨ (key = 93 ∧ ki = 3 ∧ cl = 93 ∧ op = 91) ∨ (key = 123 ∧ ki = 4 ∧ cl = 125 ∧ op = 123) ∨ (key = 125 ∧ ki = 5 ∧ cl = 125 ∧ op = 123)
theorem tAround (s : ByteArray) (key cl op : Int) (ki q : Nat) (hs : s.size ≤ 1000) (hq : q ≤ s.size) (hk : BrK key ki cl op) :
  ∃ (i j : Nat) (is : Bool), (is = true → i + 2 ≤ j) ∧ i ≤ j ∧ j ≤ s.size ∧ ∀ ww, qC 260 #[.string s, .int .i64 q, .int .u8 key] ww (.tuple #[.agg #[.int .i64 (i), .int .i64 (j)], .bool is]) := by
 have hcl : (cl = 41 ∧ op = 40) ∨ (cl = 93 ∧ op = 91) ∨ (cl = 125 ∧ op = 123) := by unfold BrK at hk; omega
 obtain ⟨d, hd, hd0, hdc⟩ : ∃ d : Nat, d ≤ 1 ∧ (1 ≤ d ∨ Nib.bt s q = cl) ∧ ((d = 0 ∧ q < s.size ∧ Nib.bt s q = cl) ∨ (d = 1 ∧ ¬ (q < s.size ∧ Nib.bt s q = cl))) := by
  by_cases h : q < s.size ∧ Nib.bt s q = cl
  ·exact ⟨0, by omega, Or.inr h.2, Or.inl ⟨rfl, h.1, h.2⟩⟩
  ·exact ⟨1, by omega, Or.inl (Nat.le_refl _), Or.inr ⟨rfl, h⟩⟩
 obtain ⟨k1, hk1, hix, hbx, hel⟩ : ∃ k1 : Nat, ∃ hk1 : k1 < 6, firstIdx ⟨#[40, 41, 91, 93, 123, 125]⟩ key.toNat.toUInt8 = (ki : Int) ∧ bits BinOp.or IntKind.i64 (ki : Int) 1 = (k1 : Int) ∧ (((⟨#[40, 41, 91, 93, 123, 125]⟩ : ByteArray)[k1]'hk1).toNat : Int) = cl := by
  unfold BrK at hk
  rcases hk with ⟨rfl, rfl, rfl, rfl⟩ | ⟨rfl, rfl, rfl, rfl⟩ | ⟨rfl, rfl, rfl, rfl⟩ | ⟨rfl, rfl, rfl, rfl⟩ | ⟨rfl, rfl, rfl, rfl⟩ | ⟨rfl, rfl, rfl, rfl⟩
  ·exact ⟨1, by decide, by decide, by decide, by decide⟩
  ·exact ⟨1, by decide, by decide, by decide, by decide⟩
  ·exact ⟨3, by decide, by decide, by decide, by decide⟩
  ·exact ⟨3, by decide, by decide, by decide, by decide⟩
  ·exact ⟨5, by decide, by decide, by decide, by decide⟩
  ·exact ⟨5, by decide, by decide, by decide, by decide⟩
 have HS : qH 287 #[.string s, .int .u8 cl, .int .i64 q, .int .i64 d] (.tuple #[.int .i64 (mtI (Nib.mtD s cl op d (q + 1))), .bool (mtB (Nib.mtD s cl op d (q + 1)))]) := fun ww => tSeekE_any s cl op q d ww hs hq hd hd0 hcl
 have hab : cl ≠ op := by omega
 have hbr := Nib.mtD_other (s := s) hab (q + 1) d qo (by rw [Nat.add_sub_cancel]; rcases hd0 with h | h; (exact Or.inl qo); (exact Or.inr ⟨by omega, h⟩))
 have hlt := Nib.mtD_lt (s := s) (a := cl) (b := op) (q + 1) d
 have hi1 : (0 : Int) ≤ (k1 : Int) := by omega
 have hi2 : (k1 : Int) < 6 := by omega
 have hQ : (d = 0 ∧ ∃ h : q < s.size, (((s[q]'h).toNat : Int) == cl) = true) ∨ (d = 1 ∧ ∃ h : q < s.size, (((s[q]'h).toNat : Int) == cl) = false) ∨ (d = 1 ∧ ¬ q < s.size) := by
  rcases hdc with ⟨h1, h2, h3⟩ | ⟨h1, h2⟩
  ·exact Or.inl ⟨h1, h2, by rw [← Nib.bt_in h2]; simp [h3]⟩
  ·by_cases h3 : q < s.size
   ·exact Or.inr (Or.inl ⟨h1, h3, by
     rw [← Nib.bt_in h3]
     simp
     exact fun e => h2 ⟨h3, e⟩⟩)
   ·exact Or.inr (Or.inr ⟨h1, h3⟩)
 obtain ⟨dI, hdI⟩ : ∃ dI : Int, (d : Int) = dI := ⟨_, rfl⟩
 generalize Nib.mtD s cl op d (q + 1) = X at *
 rw [hdI] at HS
 have hQ : (dI = 0 ∧ ∃ h : q < s.size, (((s[q]'h).toNat : Int) == cl) = true) ∨ (dI = 1 ∧ ∃ h : q < s.size, (((s[q]'h).toNat : Int) == cl) = false) ∨ (dI = 1 ∧ ¬ q < s.size) := by
  rcases hQ with ⟨h, h2⟩ | ⟨h, h2⟩ | ⟨h, h2⟩
  ·exact Or.inl ⟨by omega, h2⟩
  ·exact Or.inr (Or.inl ⟨by omega, h2⟩)
  ·exact Or.inr (Or.inr ⟨by omega, h2⟩)
 by_cases hX : X < 0
 ·have e1 : mtI X = 0 := by unfold mtI; rw [if_pos hX]
  have e2 : mtB X = false := by unfold mtB; rw [decide_eq_false qo]
  rw [e1, e2] at HS
  refine ⟨0, 0, false, (fun h => by cases h), Nat.le_refl _, Nat.zero_le _, fun w => ?_⟩
  clear e1 e2 hX hbr hlt hdc hd0 hk hcl hdI hd
  rcases hQ with ⟨hd1, hqs, hcc⟩ | ⟨hd1, hqs, hcc⟩ | ⟨hd1, hqs⟩
  all_goals
   subst hd1
   go_enter Tryz.func260, Tryz.ntmps260
   go_wp2_with fail
   refine (indexByte_any ⟨#[40, 41, 91, 93, 123, 125]⟩ key _).mono ?_
   rintro e w9 ⟨rfl, h9⟩
   have h9 := h9.symm
   subst h9
   rw [hix]
   have R : Two (w.alloc (.cells #[.int .i64 0, .int .i64 0] 128)) w.heap.size 0 0 := Two.new _ _ _ _
   go_wp2_with fail
   refine (HS.out _).mono ?_
   rintro r1 w1 ⟨rfl, h1⟩
   obtain ⟨hc1, hf1, hz1⟩ := qb h1
   (try simp at hz1)
   have R1 : Two w1 (w.heap.size) (0) (0) := qTw
   have ⟨R1_0, R1_1, R1_z, R1_l⟩ := R1
   clear hc1 hf1
   go_wp2
   exact qV (.tuple #[.agg #[.int .i64 (0), .int .i64 (0)], .bool false]) (by simp [results, Tryz.results260, go_sem, R1_0, R1_1, R1_z, R1_l]) rfl
 ·obtain ⟨F, hF⟩ : ∃ F : Nat, X = F := ⟨X.toNat, by omega⟩
  have hbF : Nib.bt s F = op := by
   have := hbr qo
   rw [hF] at this
   simpa using this
  have hFs : F < s.size := by
   by_cases h : F < s.size
   ·exact h
   ·rw [Nib.bt_out h] at hbF
    omega
  have hpo : Nib.prt (Nib.bt s F) ≠ 0 := by
   rw [hbF]
   rcases hcl with ⟨_, rfl⟩ | ⟨_, rfl⟩ | ⟨_, rfl⟩ <;> decide
  have hop : Nib.opn (Nib.bt s F) = true := by
   rw [hbF]
   rcases hcl with ⟨_, rfl⟩ | ⟨_, rfl⟩ | ⟨_, rfl⟩ <;> decide
  have e1 : mtI X = F := by unfold mtI; rw [if_neg qo, hF]
  have e2 : mtB X = true := by unfold mtB; rw [decide_eq_true qo]
  rw [e1, e2] at HS
  have HP : qH 255 #[.string s, .int .i64 F] (.tuple #[.int .i64 (mtI (Nib.mtch s F)), .bool (mtB (Nib.mtch s F))]) := fun ww => tPartner_any s F ww hs hFs hpo
  have hml := Nib.mtch_lt hFs
  have hmg := Nib.mtch_gt hFs hop
  generalize Nib.mtch s F = Y at *
  by_cases hY : Y < 0
  ·have e3 : mtI Y = 0 := by unfold mtI; rw [if_pos hY]
   have e4 : mtB Y = false := by unfold mtB; rw [decide_eq_false qo]
   rw [e3, e4] at HP
   refine ⟨0, 0, false, (fun h => by cases h), Nat.le_refl _, Nat.zero_le _, fun w => ?_⟩
   clear e1 e2 e3 e4 hX hbr hlt hdc hd0 hk hcl hdI hd hF hbF hpo hop hml hmg hY
   rcases hQ with ⟨hd1, hqs, hcc⟩ | ⟨hd1, hqs, hcc⟩ | ⟨hd1, hqs⟩
   all_goals
    subst hd1
    go_enter Tryz.func260, Tryz.ntmps260
    go_wp2_with fail
    refine (indexByte_any ⟨#[40, 41, 91, 93, 123, 125]⟩ key _).mono ?_
    rintro e w9 ⟨rfl, h9⟩
    have h9 := h9.symm
    subst h9
    rw [hix]
    have R : Two (w.alloc (.cells #[.int .i64 0, .int .i64 0] 128)) w.heap.size 0 0 := Two.new _ _ _ _
    go_wp2_with fail
    refine (HS.out _).mono ?_
    rintro r1 w1 ⟨rfl, h1⟩
    obtain ⟨hc1, hf1, hz1⟩ := qb h1
    (try simp at hz1)
    have R1 : Two w1 (w.heap.size) (0) (0) := qTw
    have ⟨R1_0, R1_1, R1_z, R1_l⟩ := R1
    clear hc1 hf1
    go_wp2_with fail
    refine (HP.out _).mono ?_
    rintro r2 w2 ⟨rfl, h2⟩
    obtain ⟨hc2, hf2, hz2⟩ := qb h2
    (try simp at hz2)
    have R2 : Two w2 (w.heap.size) (0) (0) := qTw
    have ⟨R2_0, R2_1, R2_z, R2_l⟩ := R2
    clear hc2 hf2
    go_wp2
    exact qV (.tuple #[.agg #[.int .i64 (0), .int .i64 (0)], .bool false]) (by simp [results, Tryz.results260, go_sem, R2_0, R2_1, R2_z, R2_l]) rfl
  ·obtain ⟨L, hL⟩ : ∃ L : Nat, Y = L := ⟨Y.toNat, by omega⟩
   have e3 : mtI Y = L := by unfold mtI; rw [if_neg qo, hL]
   have e4 : mtB Y = true := by unfold mtB; rw [decide_eq_true qo]
   rw [e3, e4] at HP
   have hFL := hmg qo
   refine ⟨F, L + 1, true, (fun _ => by omega), by omega, by omega, fun w => ?_⟩
   have hwr : IntKind.i64.wrap ((L : Int) + 1) = (L : Int) + 1 := by rw [IntKind.wrap_i64]; omega
   rw [show ((L + 1 : Nat) : Int) = (L : Int) + 1 by omega]
   clear e1 e2 e3 e4 hX hbr hlt hdc hd0 hk hcl hdI hd hF hbF hpo hop hml hmg hY hL hFL
   rcases hQ with ⟨hd1, hqs, hcc⟩ | ⟨hd1, hqs, hcc⟩ | ⟨hd1, hqs⟩
   all_goals
    subst hd1
    go_enter Tryz.func260, Tryz.ntmps260
    go_wp2_with fail
    refine (indexByte_any ⟨#[40, 41, 91, 93, 123, 125]⟩ key _).mono ?_
    rintro e w9 ⟨rfl, h9⟩
    have h9 := h9.symm
    subst h9
    rw [hix]
    have R : Two (w.alloc (.cells #[.int .i64 0, .int .i64 0] 128)) w.heap.size 0 0 := Two.new _ _ _ _
    go_wp2_with fail
    refine (HS.out _).mono ?_
    rintro r1 w1 ⟨rfl, h1⟩
    obtain ⟨hc1, hf1, hz1⟩ := qb h1
    (try simp at hz1)
    have R1 : Two w1 (w.heap.size) (0) (0) := qTw
    have ⟨R1_0, R1_1, R1_z, R1_l⟩ := R1
    clear hc1 hf1
    go_wp2_with fail
    refine (HP.out _).mono ?_
    rintro r2 w2 ⟨rfl, h2⟩
    obtain ⟨hc2, hf2, hz2⟩ := qb h2
    (try simp at hz2)
    have R2 : Two w2 (w.heap.size) (0) (0) := qTw
    have ⟨R2_0, R2_1, R2_z, R2_l⟩ := R2
    clear hc2 hf2
    go_wp2
    exact qV (.tuple #[.agg #[.int .i64 (F), .int .i64 ((L : Int) + 1)], .bool true]) (by simp [results, Tryz.results260, go_sem, R2_0, R2_1, R2_z, R2_l]) rfl
theorem oBrackets (s : ByteArray) (p : Nat) (key cl op : Int) (ki : Nat) (wh : Bool) (hs : s.size ≤ 1000) (hp : p ≤ s.size) (hk : BrK key ki cl op) : GivesO 215 #[.agg #[.string s, .int .i64 p, .bool wh], .int .u8 key] s := by
 obtain ⟨i, j, is, h1, h2, h3, HA⟩ := tAround s key cl op ki p hs hp hk
 have HA : qH 260 #[.string s, .int .i64 p, .int .u8 key] (.tuple #[.agg #[.int .i64 (i), .int .i64 (j)], .bool is]) := HA
 cases is with
 | false =>
  refine ⟨0, 0, false, false, Nat.le_refl _, Nat.zero_le _, fun w => ?_⟩
  go_enter Tryz.func215, Tryz.ntmps215
  have G : Tri ((w.alloc (.cells #[.string s, .int .i64 p, .bool wh] 213)).alloc (.cells #[.int .i64 0, .int .i64 0, .bool false] 186)) w.heap.size s p wh := Tri.alloc (Tri.new _ _ _ _ _) _
  have Q : Tre ((w.alloc (.cells #[.string s, .int .i64 p, .bool wh] 213)).alloc (.cells #[.int .i64 0, .int .i64 0, .bool false] 186)) (w.heap.size + 1) 0 0 false := by have := Tre.new (w.alloc (.cells #[.string s, .int .i64 p, .bool wh] 213)) 0 0 false 186; simpa using this
  go_wp2_with fail
  refine (HA.out _).mono ?_
  rintro r1 w1 ⟨rfl, h1⟩
  obtain ⟨hc1, hf1, hz1⟩ := qb h1
  (try simp at hz1)
  have G1 : Tri w1 (w.heap.size) (s) (p) (wh) := qTi
  have ⟨G1_0, G1_1, G1_2, G1_z, G1_l⟩ := G1
  have Q1 : Tre w1 (w.heap.size + 1) (0) (0) (false) := qTe
  have ⟨Q1_0, Q1_1, Q1_2, Q1_z, Q1_l⟩ := Q1
  clear hc1 hf1
  go_wp2
  exact qV (.tuple #[.agg #[.int .i64 0, .int .i64 0, .bool false], .bool false]) (by simp [results, Tryz.results215, go_sem, Q1_0, Q1_1, Q1_2, Q1_z, Q1_l]) rfl
 | true =>
  have h4 := h1 rfl
  have HP : qH 261 #[.agg #[.string s, .int .i64 p, .bool wh], .agg #[.int .i64 (i), .int .i64 (j)]] (.agg #[.int .i64 (if wh then (i : Int) else (i : Int) + 1), .int .i64 (if wh then (j : Int) else (j : Int) - 1), .bool false]) := fun ww => oPair s p i j wh ww qo qo
  obtain ⟨a, b, ha, hb, hab, hbs⟩ : ∃ a b : Nat, (if wh then (i : Int) else (i : Int) + 1) = (a : Int) ∧ (if wh then (j : Int) else (j : Int) - 1) = (b : Int) ∧ a ≤ b ∧ b ≤ s.size := by
   cases wh
   ·exact ⟨i + 1, j - 1, by simp, by simp; omega, by omega, by omega⟩
   ·exact ⟨i, j, by simp, by simp, by omega, by omega⟩
  rw [ha, hb] at HP
  refine ⟨a, b, false, true, hab, hbs, fun w => ?_⟩
  clear ha hb h1 h4
  go_enter Tryz.func215, Tryz.ntmps215
  have G : Tri ((w.alloc (.cells #[.string s, .int .i64 p, .bool wh] 213)).alloc (.cells #[.int .i64 0, .int .i64 0, .bool false] 186)) w.heap.size s p wh := Tri.alloc (Tri.new _ _ _ _ _) _
  have Q : Tre ((w.alloc (.cells #[.string s, .int .i64 p, .bool wh] 213)).alloc (.cells #[.int .i64 0, .int .i64 0, .bool false] 186)) (w.heap.size + 1) 0 0 false := by have := Tre.new (w.alloc (.cells #[.string s, .int .i64 p, .bool wh] 213)) 0 0 false 186; simpa using this
  go_wp2_with fail
  refine (HA.out _).mono ?_
  rintro r1 w1 ⟨rfl, h1⟩
  obtain ⟨hc1, hf1, hz1⟩ := qb h1
  (try simp at hz1)
  have G1 : Tri w1 (w.heap.size) (s) (p) (wh) := qTi
  have ⟨G1_0, G1_1, G1_2, G1_z, G1_l⟩ := G1
  have Q1 : Tre w1 (w.heap.size + 1) (0) (0) (false) := qTe
  have ⟨Q1_0, Q1_1, Q1_2, Q1_z, Q1_l⟩ := Q1
  clear hc1 hf1
  go_wp2_with fail
  refine (HP.out _).mono ?_
  rintro r2 w2 ⟨rfl, h2⟩
  obtain ⟨hc2, hf2, hz2⟩ := qb h2
  (try simp at hz2)
  have G2 : Tri w2 (w.heap.size) (s) (p) (wh) := qTi
  have ⟨G2_0, G2_1, G2_2, G2_z, G2_l⟩ := G2
  have Q2 : Tre w2 (w.heap.size + 1) (0) (0) (false) := qTe
  have ⟨Q2_0, Q2_1, Q2_2, Q2_z, Q2_l⟩ := Q2
  clear hc2 hf2
  go_wp2
  exact qV (.tuple #[.agg #[.int .i64 a, .int .i64 b, .bool false], .bool true]) (by simp [results, Tryz.results215, go_sem, Q2_0, Q2_1, Q2_2, Q2_z, Q2_l]) rfl
def AnyOk : Prop := ∀ (s : ByteArray) (p : Nat), s.size ≤ 1000 → p ≤ s.size →
 qH 254 #[.string (s.extract p (Nib.fin s p)), .string ⟨#[40, 41, 91, 93, 123, 125]⟩] (.int .i64 (brkAt s p))
theorem bType_inv (b : Nat) (s : ByteArray) (I : Nat → World → Prop) (w : World) (h : I 0 w) (hs : s.size ≤ 17592186044416)
  (HK : ∀ k, (hk : k < s.size) → ∀ ww, I k ww → Calls Tryz.prog 38 #[.pointer (some ⟨b, 0, none⟩), .int .u8 (s[k]'hk).toNat] ww fun e w' => ∃ O : Int, e = .returned (.int .i64 O) ∧ I (k + 1) w') :
  Calls Tryz.prog 30 #[.pointer (some ⟨b, 0, none⟩), .string s] w fun e w' => ∃ n : Nat, e = .returned (.int .i64 n) ∧ n ≤ s.size ∧ I s.size w' := by
 have HK' : Hid (∀ k, (hk : k < s.size) → ∀ ww, I k ww → Calls Tryz.prog 38 #[.pointer (some ⟨b, 0, none⟩), .int .u8 (s[k]'hk).toNat] ww fun e w' => ∃ O : Int, e = .returned (.int .i64 O) ∧ I (k + 1) w') := HK
 clear HK
 go_enter Tryz.func30, Tryz.ntmps30
 go_wp2
 go_loopw [5, 9] (fun m i wr => ∃ k n : Nat, k ≤ s.size ∧ i = .int .i64 k ∧ m = .int .i64 n ∧ n ≤ k ∧ I k wr) (fun _ i _ => s.size - (intOf i).toNat)
 case atStart => exact ⟨0, 0, Nat.zero_le _, rfl, rfl, Nat.le_refl _, h⟩
 case round =>
  obtain ⟨k, n, hk, rfl, rfl, hnk, h1⟩ := hrel
  by_cases hlt : k < s.size
  ·have HC := HK'.out k hlt _ h1
   go_wp2_with fail
   refine Calls.mono HC ?_
   rintro e w1 ⟨O, rfl, h2⟩
   clear h1 HC
   by_cases hO : O = 4
   ·have hO' : (O == 4) = true := by simp [hO]
    clear hO
    go_wp2
    go_roundw
    case rel => exact ⟨k + 1, n + 1, by omega, by go_num, by go_num, by omega, h2⟩
    case measure => simp [intOf] <;> omega
   ·have hO' : (O == 4) = false := by simp [hO]
    clear hO
    go_wp2
    go_roundw
    case rel => exact ⟨k + 1, n, by omega, by go_num, rfl, by omega, h2⟩
    case measure => simp [intOf] <;> omega
  ·have hkn : k = s.size := by omega
   subst hkn
   go_wp2
   go_ret
   exact ⟨n, rfl, hnk, h1⟩
theorem bType_none (b : Nat) (s : ByteArray) (I : Nat → World → Prop) (w : World) (h : I 0 w) (hs : s.size ≤ 17592186044416)
  (HK : ∀ k, (hk : k < s.size) → ∀ ww, I k ww → Calls Tryz.prog 38 #[.pointer (some ⟨b, 0, none⟩), .int .u8 (s[k]'hk).toNat] ww fun e w' => ∃ O : Int, e = .returned (.int .i64 O) ∧ ¬ O = 4 ∧ I (k + 1) w') :
  Calls Tryz.prog 30 #[.pointer (some ⟨b, 0, none⟩), .string s] w fun e w' => e = .returned (.int .i64 0) ∧ I s.size w' := by
 have HK' : Hid (∀ k, (hk : k < s.size) → ∀ ww, I k ww → Calls Tryz.prog 38 #[.pointer (some ⟨b, 0, none⟩), .int .u8 (s[k]'hk).toNat] ww fun e w' => ∃ O : Int, e = .returned (.int .i64 O) ∧ ¬ O = 4 ∧ I (k + 1) w') := HK
 clear HK
 go_enter Tryz.func30, Tryz.ntmps30
 go_wp2
 go_loopw [5, 9] (fun m i wr => ∃ k : Nat, k ≤ s.size ∧ i = .int .i64 k ∧ m = .int .i64 0 ∧ I k wr) (fun _ i _ => s.size - (intOf i).toNat)
 case atStart => exact ⟨0, Nat.zero_le _, rfl, rfl, h⟩
 case round =>
  obtain ⟨k, hk, rfl, rfl, h1⟩ := hrel
  by_cases hlt : k < s.size
  ·have HC := HK'.out k hlt _ h1
   go_wp2_with fail
   refine Calls.mono HC ?_
   rintro e w1 ⟨O, rfl, hO, h2⟩
   clear h1 HC
   have hO' : (O == 4) = false := by simp [hO]
   clear hO
   go_wp2
   go_roundw
   case rel => exact ⟨k + 1, by omega, by go_num, rfl, h2⟩
   case measure => simp [intOf] <;> omega
  ·have hkn : k = s.size := by omega
   subst hkn
   go_wp2
   go_ret
   exact ⟨rfl, h1⟩
theorem press_endS {σ : Type} (b r d : Nat) (p : Pg) (key : Int) (O : σ → Int) (T : σ → ByteArray) (A : World → Prop) (B C D E : σ → World → Prop) (w : World) (hA : A w) (pA : HasB A b r d p) (pB : ∀ s ww, B s ww → ∃ tv dg, BdAt ww b r d tv dg)
  (pC : ∀ s ww, C s ww → ∃ tv dg p2, BdAt ww b r d tv dg ∧ RdAt ww r d p2 ∧ ¬ p2.mode = 1) (pD : ∀ s ww, D s ww → ∃ tv dg p2, BdAt ww b r d tv dg ∧ RdAt ww r d p2 ∧ p2.t = T s)
  (pE : ∀ s ww, E s ww → (∃ tv dg, BdAt ww b r d tv dg) ∧ ww.cell? ⟨r, 0, none⟩ = some (.pointer (some ⟨d, 0, none⟩)) ∧ ww.cell? ⟨d, 0, none⟩ = some (.string (T s))) (fD : ∀ s ww, D s ww → D s ww.drew)
  (HT : Hid (∀ ww, A ww → Calls Tryz.prog 46 #[.pointer (some ⟨b, 0, none⟩), .int .u8 key] ww fun e w' => ∃ s, e = .returned (.int .i64 (O s)) ∧ ¬ O s = 0 ∧ B s w'))
  (HK : Hid (∀ s, GivesT 47 #[.pointer (some ⟨b, 1, none⟩), .int .u8 key, .int .i64 p.mode] (B s) (C s)))
  (HE : Hid (∀ s, GivesT 48 #[.pointer (some ⟨b, 1, none⟩), .int .i64 (O s)] (C s) (D s)))
  (HH : Hid (∀ s, GivesT 49 #[.pointer (some ⟨d, 5, none⟩), .string (T s)] (D s) (E s))) :
  Calls Tryz.prog 38 #[.pointer (some ⟨b, 0, none⟩), .int .u8 key] w fun e w' => ∃ s, e = .returned (.int .i64 (O s)) ∧ E s w' := by
 obtain ⟨⟨tv, dg, HB⟩, HR⟩ := pA w hA
 have b0 := HB.c0
 have r0 := HR.bg.c0
 have d3 := HR.dk.c3
 have bl := HB.lt
 have rl := HR.bg.lt
 have dl := HR.dk.lt
 have pB' : Hid (∀ s ww, B s ww → ∃ tv dg, BdAt ww b r d tv dg) := pB
 have pC' : Hid (∀ s ww, C s ww → ∃ tv dg p2, BdAt ww b r d tv dg ∧ RdAt ww r d p2 ∧ ¬ p2.mode = 1) := pC
 have pD' : Hid (∀ s ww, D s ww → ∃ tv dg p2, BdAt ww b r d tv dg ∧ RdAt ww r d p2 ∧ p2.t = T s) := pD
 have pE' : Hid (∀ s ww, E s ww → (∃ tv dg, BdAt ww b r d tv dg) ∧ ww.cell? ⟨r, 0, none⟩ = some (.pointer (some ⟨d, 0, none⟩)) ∧ ww.cell? ⟨d, 0, none⟩ = some (.string (T s))) := pE
 clear pB pA pC pD pE
 go_enter Tryz.func38, Tryz.ntmps38
 go_wp2_with fail
 refine Calls.mono (HT.out _ hA) ?_
 rintro e w1 ⟨s, rfl, hO, h1⟩
 obtain ⟨tv1, dg1, B1⟩ := pB'.out s w1 h1
 have bl1 := B1.lt
 have hQ : Hid (∃ z, z = O s) := ⟨_, rfl⟩
 have HK1 := HK.out s
 have HE1 := HE.out s
 have HH1 := HH.out s
 generalize hOs : O s = Q at *
 generalize hTs : T s = X at *
 have hO' : (Q == 0) = false := by simp [hO]
 have hO2 : (Q != 0) = true := by simp [hO]
 clear hQ hO
 go_wp2_with fail
 refine Calls.mono (HK1.out _ h1) ?_
 rintro e w2 ⟨rfl, h2⟩
 obtain ⟨tv2, dg2, p2, B2, R2, hm⟩ := pC'.out s w2 h2
 have hm' : (p2.mode != 1) = true := by simp [hm]
 have hm2 : (p2.mode == 1) = false := by simp [hm]
 have e0 := B2.c0
 have e1 := R2.bg.c0
 have e2 := R2.dk.c3
 have bl2 := B2.lt
 clear h1 hm
 go_wp2_with fail
 refine Calls.mono (HE1.out _ h2) ?_
 rintro e w3 ⟨rfl, h3⟩
 obtain ⟨tv3, dg3, p3, B3, R3, ht⟩ := pD'.out s w3 h3
 have g0 := B3.c0
 have g1 := R3.bg.c0
 have g2 := R3.dk.c0
 rw [ht, hTs] at g2
 have D3 := fD s w3 h3
 clear h2 h3
 go_wp2_with fail
 go_region_held3 (fun ww => ww.cell? ⟨b, 0, none⟩ = some (.pointer (some ⟨r, 0, none⟩)) ∧ ww.cell? ⟨r, 0, none⟩ = some (.pointer (some ⟨d, 0, none⟩)) ∧ ww.cell? ⟨d, 0, none⟩ = some (.string X)) ((refine ⟨?_, ?_, ?_⟩ <;> (first | (go_simp; done) | (with_reducible assumption)))) ((go_at_call 49; refine Calls.mono (HH1.out _ D3) ?_; rintro e4 w4 ⟨rfl, h4⟩; obtain ⟨⟨tv4, dg4, B4⟩, q1, q2⟩ := pE'.out s w4 h4; rw [hTs] at q2; have q0 := B4.c0; have HE4 : Hid (E s w4) := h4; clear h4))
 go_wp2
 go_ret
 refine ⟨s, ?_, HE4.out⟩
 rw [hOs]
 rfl
end Go.Proofs.YtlendfhehhacpaaGreat
