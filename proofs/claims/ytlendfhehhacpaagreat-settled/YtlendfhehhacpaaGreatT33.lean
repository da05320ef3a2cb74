/- A part. -/
import Derived.Test.YtlendfhehhacpaaGreatT27
import Derived.Test.YtlendfhehhacpaaGreatT30
import Derived.Test.YtlendfhehhacpaaGreatT26
set_option linter.unusedVariables false
set_option linter.unusedSimpArgs false
set_option maxRecDepth 100000
set_option maxHeartbeats 8000000
namespace Go.Proofs.YtlendfhehhacpaaGreat
open Go.RowKit Nib Tryz
theorem sGo_way (s : ByteArray) (p n : Nat) (key ch : Int) (b : Bool) (w : World) (hs : s.size ≤ 1000) (hp : p ≤ s.size) (hn : n ≤ 99) (hl : p ≤ lst s p) (hk : isPlainWay key = true)
  (HA : qH 254 #[.string (s.extract p (fin s p)), .string ⟨#[40, 41, 91, 93, 123, 125]⟩] (.int .i64 (brkAt s p))) :
  qC 169 #[.int .u8 key, .agg #[.string s, .int .i64 (p), .int .i64 (n), .bool false, .bool false]] w (.tuple #[.agg #[.int .i64 (wayX (goWay s p key ch (max n 1) (decide (0 < n)) false b)), .int .i64 (wayK (goWay s p key ch (max n 1) (decide (0 < n)) false b))], .bool (wayZ (goWay s p key ch (max n 1) (decide (0 < n)) false b))]) := by
 simp only [isPlainWay, Bool.or_eq_true, beq_iff_eq] at hk
 rcases hk with ((((((((((((((((h | h) | h) | h) | h) | h) | h) | h) | h) | h) | h) | h) | h) | h) | h) | h) | h) | h
 all_goals subst h
 ·exact sGo_104 s p n false false w _ (fun ww => sInLine_h s p n false false ww hs hp hn)
 ·exact sGo_108 s p n false false w _ (fun ww => sInLine_l s p n false false ww hs hp hn (by simpa [mostL] using hl))
 ·exact sGo_48 s p n false false w _ (fun ww => sInLine_0 s p n false false ww hs hp)
 ·exact sGo_94 s p n false false w _ (fun ww => sInLine_hat s p n false false ww hs hp)
 ·exact sGo_36 s p n false false w _ (fun ww => sInLine_eol s p n false false ww hs hp hn)
 ·exact sGo_106 s p n false false w _ (fun ww => sToLine_j s p n false false (decide (0 < n)) ww hs hp hn)
 ·exact sGo_107 s p n false false w _ (fun ww => sToLine_k s p n false false (decide (0 < n)) ww hs hp hn)
 ·exact sGo_71 s p n false false w _ (fun ww => sToNumber_any s p n false false 71 ww hs hp hn (Or.inl rfl))
 ·exact sGo_103 s p n false false w _ (fun ww => sToNumber_any s p n false false 103 ww hs hp hn (Or.inr rfl))
 ·exact sGo_119 s p n false false w _ (fun ww => sToWord_plain s p n false ww hs hp hn)
 ·exact sGo_87 s p n false false w _ (fun ww => sToWord_plain s p n true ww hs hp hn)
 ·exact sGo_98 s p n false false w _ (fun ww => sToAhead_any s p n false false false ww hs hp hn)
 ·exact sGo_66 s p n false false w _ (fun ww => sToAhead_any s p n false false true ww hs hp hn)
 ·exact sGo_101 s p n false false w _ (fun ww => sToWordEnd_any s p n false false false ww hs hp hn)
 ·exact sGo_69 s p n false false w _ (fun ww => sToWordEnd_any s p n false false true ww hs hp hn)
 ·exact sGo_125 s p n false false w _ (fun ww => sToPar_any s p n false false true 1 ww hs hp hn rfl)
 ·exact sGo_123 s p n false false w _ (fun ww => sToPar_any s p n false false false (-1) ww hs hp hn rfl)
 ·exact sGo_37 s p n false false w _ (fun ww => sToPartner_gen s p n false false ww hs hp HA)
theorem sFind_go (s : ByteArray) (p n : Nat) (key ch : Int) (given : Bool) (w : World) (hs : s.size ≤ 1000) (hp : p ≤ s.size) (hn : n ≤ 99) (hk : isFind key = true) :
  qC 167 #[.agg #[.int .u8 key, .int .u8 ch], .agg #[.string s, .int .i64 (p), .int .i64 (n), .bool false, .bool false]] w (.tuple #[.agg #[.int .i64 (wayX (goWay s p key ch (max n 1) given false false)), .int .i64 (wayK (goWay s p key ch (max n 1) given false false))], .bool (wayZ (goWay s p key ch (max n 1) given false false))]) := by
 simp only [isFind, Bool.or_eq_true, beq_iff_eq] at hk
 have hk' : isFnd key := by unfold isFnd; omega
 refine sFindGo_gen s p n false false key ch w _ (fun ww => ?_)
 have := sGoFrom_any s p n 1 false false key ch ww hs hp hn qo qo hk'
 rcases hk with ((h | h) | h) | h <;> subst h <;> exact this
theorem sFind_again (s : ByteArray) (p n : Nat) (key ch : Int) (given : Bool) (w : World) (hs : s.size ≤ 1000) (hp : p ≤ s.size) (hn : n ≤ 99) (hk : isFind key = true) :
  qC 183 #[.agg #[.int .u8 key, .int .u8 ch], .agg #[.string s, .int .i64 (p), .int .i64 (n), .bool false, .bool false]] w (.tuple #[.agg #[.int .i64 (wayX (goWay s p key ch (max n 1) given false true)), .int .i64 (wayK (goWay s p key ch (max n 1) given false true))], .bool (wayZ (goWay s p key ch (max n 1) given false true))]) := by
 simp only [isFind, Bool.or_eq_true, beq_iff_eq] at hk
 have hk' : isFnd key := by unfold isFnd; omega
 refine sFindAgain_gen s p n false false key ch w _ (fun ww => ?_)
 have h1 := sGoFrom_any s p n 1 false false key ch ww hs hp hn qo qo hk'
 have h2 := sGoFrom_any s p n 2 false false key ch ww hs hp hn qo qo hk'
 rcases hk with ((h | h) | h) | h <;> subst h
 ·exact h1
 ·exact h2
 ·exact h1
 ·exact h2
theorem sFind_again0 (s : ByteArray) (p n : Int) (ch : Int) (w : World) :
  qC 183 #[.agg #[.int .u8 0, .int .u8 ch], .agg #[.string s, .int .i64 (p), .int .i64 (n), .bool false, .bool false]] w (.tuple #[.agg #[.int .i64 (wayX (((0 : Int), (0 : Int), true))), .int .i64 (wayK (((0 : Int), (0 : Int), true)))], .bool (wayZ (((0 : Int), (0 : Int), true)))]) :=
 sFindAgain_gen s p n false false 0 ch w _ (fun ww => sGoFrom_none s p n _ ch false false ww)
theorem sTurned_any (key ch : Int) (w : World) (hk : key = 0 ∨ isFind key = true) :
  qC 184 #[.agg #[.int .u8 key, .int .u8 ch]] w (.agg #[.int .u8 (flp key), .int .u8 ch]) := by
 simp only [isFind, Bool.or_eq_true, beq_iff_eq] at hk
 rcases hk with h | ((h | h) | h) | h <;> subst h
 ·exact sTurned_0 ch w
 ·exact sTurned_102 ch w
 ·exact sTurned_116 ch w
 ·exact sTurned_70 ch w
 ·exact sTurned_84 ch w
theorem same_line {s : ByteArray} {p q : Nat} (hp : p ≤ s.size) (hq : q ≤ s.size) : (beg s q = beg s p ∧ fin s q = fin s p) ↔ lin s q = lin s p := by
 constructor
 ·intro h
  rw [← lin_beg s q, h.1, lin_beg]
 ·intro h
  rw [beg_eq hq, fin_eq hq, beg_eq hp, fin_eq hp, h]
  exact ⟨rfl, rfl⟩
theorem qt49 {P : Prop} (h : P := by
  intro ww
  have h1 := itr_w_le (g := g) hp (N - 1)
  have h2 := itr_w_le (g := g) hp N
  have := sKept_any s _ _ ww hs h1 h2
  rw [show wordQ s p N g true = if ¬ (beg s (itr (wstep s g) N p) = beg s (itr (wstep s g) (N - 1) p) ∧ fin s (itr (wstep s g) N p) = fin s (itr (wstep s g) (N - 1) p)) ∧ fin s (itr (wstep s g) (N - 1) p) ≠ itr (wstep s g) (N - 1) p then fin s (itr (wstep s g) (N - 1) p) else itr (wstep s g) N p by
   unfold wordQ; rw [if_pos rfl]; simp only [same_line h1 h2, ne_eq]]
  exact this
 ) : P := h
theorem qt73 {P : Prop} (h : P := by
  have ⟨F2_0, F2_1, F2_2, F2_3, F2_4, F2_z, F2_l⟩ := F2
  have RB2 : Two w2 (w.heap.size + 1) (0) (0) := qTw
  have ⟨RB2_0, RB2_1, RB2_z, RB2_l⟩ := RB2
  go_wp2
  go_round
  case rel =>
   refine ⟨k + 1, by omega, rfl, by rw [hA], by go_num, F2, RB2, ?_⟩
   repeat exact qB
  case measure => simp [intOf] <;> omega
 ) : P := h
theorem sToWord_verb (s : ByteArray) (p n : Nat) (g : Bool) (w : World) (hs : s.size ≤ 1000) (hp : p ≤ s.size) (hn : n ≤ 99) :
  qC 208 #[.agg #[.string s, .int .i64 (p), .int .i64 (n), .bool true, .bool false], .bool g] w (.tuple #[.agg #[.int .i64 (wayX (((wordQ s p (max n 1) g true : Int), 0, (wordQ s p (max n 1) g true : Int) == (p : Int)))), .int .i64 (wayK (((wordQ s p (max n 1) g true : Int), 0, (wordQ s p (max n 1) g true : Int) == (p : Int))))], .bool (wayZ (((wordQ s p (max n 1) g true : Int), 0, (wordQ s p (max n 1) g true : Int) == (p : Int))))]) := by
 have HP : Hid (∀ (q : Nat), q ≤ s.size → ∀ ww, qC 249 #[.string s, .int .i64 q, .bool g] ww (.int .i64 (wstep s g q))) := fun q hq ww => sWordStep_any s q g ww hs hq
 have HN : qH 241 #[.agg #[.string s, .int .i64 (p), .int .i64 (n), .bool true, .bool false]] (.int .i64 ((max n 1 : Nat) : Int)) := by
  intro ww
  have := sNumber_any s p n true false ww
  rw [show max (n : Int) 1 = ((max n 1 : Nat) : Int) by omega] at this
  exact this
 have hN1 : 1 ≤ max n 1 := by omega
 have hN2 : max n 1 ≤ 99 := by omega
 generalize max n 1 = N at *
 have HU : qH 240 #[.agg #[.string s, .int .i64 (p), .int .i64 (n), .bool true, .bool false], .int .i64 (wordQ s p N g true : Nat), .int .i64 0] (.tuple #[.agg #[.int .i64 (wayX (((wordQ s p N g true : Int), 0, (wordQ s p N g true : Int) == (p : Int)))), .int .i64 (wayK (((wordQ s p N g true : Int), 0, (wordQ s p N g true : Int) == (p : Int))))], .bool (wayZ (((wordQ s p N g true : Int), 0, (wordQ s p N g true : Int) == (p : Int))))]) := fun ww => sUnless_any s p n _ 0 true false ww
 generalize (((wordQ s p N g true : Nat) : Int), (0 : Int), (((wordQ s p N g true : Nat) : Int) == (p : Int))) = R at *
 have HK : qH 250 #[.string s, .int .i64 (itr (wstep s g) (N - 1) p : Nat), .int .i64 (itr (wstep s g) N p : Nat)] (.int .i64 (wordQ s p N g true : Nat)) := by
  exact qt49
 generalize wordQ s p N g true = Z at *
 go_enter func208, ntmps208
 have F : Five ((w.alloc (.cells #[.string s, .int .i64 (p), .int .i64 (n), .bool true, .bool false] 206)).alloc (.cells #[.int .i64 0, .int .i64 0] 202)) w.heap.size s p n true false := Five.alloc (Five.new _ _ _ _ _ _ _) _
 have RB : Two ((w.alloc (.cells #[.string s, .int .i64 (p), .int .i64 (n), .bool true, .bool false] 206)).alloc (.cells #[.int .i64 0, .int .i64 0] 202)) (w.heap.size + 1) 0 0 := qN
 go_wp2_with fail
 go_region
 go_wp2_with fail
 refine (HN.out _).mono ?_
 rintro r1 w1 ⟨rfl, h1⟩
 obtain ⟨hc1, hf1, hz1⟩ := qb h1
 (try simp at hz1)
 have F1 : Five w1 (w.heap.size) s p n true false := qF
 have ⟨F1_0, F1_1, F1_2, F1_3, F1_4, F1_z, F1_l⟩ := F1
 have RB1 : Two w1 (w.heap.size + 1) (0) (0) := qTw
 have ⟨RB1_0, RB1_1, RB1_z, RB1_l⟩ := RB1
 go_wp2
 go_loopw [6, 7, 27] (fun f q i wr => ∃ k : Nat, k ≤ N ∧ f = .int .i64 (itr (wstep s g) (k - 1) p : Nat) ∧ q = .int .i64 (itr (wstep s g) k p : Nat) ∧ i = .int .i64 k ∧ Five wr w.heap.size s p n true false ∧ Two wr (w.heap.size + 1) 0 0 ∧ Below w.heap.size w wr) (fun _ _ i _ => N - (intOf i).toNat)
 case atStart =>
  refine ⟨0, by omega, rfl, rfl, rfl, F1, RB1, ?_⟩
  repeat exact qB
 case round =>
  clear F RB h1 hc1 hf1 F1_0 F1_1 F1_2 F1_3 F1_4 F1_z F1_l RB1_0 RB1_1 RB1_z RB1_l
  obtain ⟨k, hk, rfl, rfl, rfl, F, RB, hB⟩ := hrel
  have hq := itr_w_le (g := g) hp k
  have ⟨f0, f1, f2, f3, f4, fz, fl⟩ := F
  have r0 := (RB).c0
  have r1 := (RB).c1
  have rz := (RB).fz
  have rl := (RB).lt
  have hzz := hB.size
  by_cases hlt : k < N
  ·have HS : qH 249 #[.string s, .int .i64 (itr (wstep s g) k p : Nat), .bool g] (.int .i64 (itr (wstep s g) (k + 1) p : Nat)) := fun ww => HP.out _ hq ww
   generalize hA : itr (wstep s g) (k + 1) p = A at *
   go_wp2_with fail
   refine (HS.out _).mono ?_
   rintro r2 w2 ⟨rfl, h2⟩
   obtain ⟨hc2, hf2, hz2⟩ := qb h2
   (try simp at hz2)
   have F2 : Five w2 (w.heap.size) s p n true false := qF
   exact qt73
  ·have ek : k = N := by omega
   subst ek
   generalize itr (wstep s g) (k - 1) p = E at *
   generalize itr (wstep s g) k p = A at *
   have s0 := f0; have s1 := f1; have s2 := f2; have s3 := f3; have s4 := f4
   clear HP HN F f0 f1 f2 f3 f4
   go_wp2_with fail
   go_region_held3 (fun ww => ww.cell? ⟨w.heap.size, 0, none⟩ = some (.string s) ∧ ww.cell? ⟨w.heap.size, 1, none⟩ = some (.int .i64 p) ∧ ww.cell? ⟨w.heap.size, 2, none⟩ = some (.int .i64 n) ∧ ww.cell? ⟨w.heap.size, 3, none⟩ = some (.bool true) ∧ ww.cell? ⟨w.heap.size, 4, none⟩ = some (.bool false)) ((refine ⟨?_, ?_, ?_, ?_, ?_⟩ <;> (first | ((repeat exact qM); done) | (go_simp; done)))) (first | (go_at_call 250; refine (HK.out _).mono ?_; rintro r4 w4 ⟨rfl, h4⟩; obtain ⟨hc4, hf4, hz4⟩ := qb h4; (try simp at hz4); (try have ⟨hl4_0, hk4_0⟩ := qL w.heap.size w4.heap.size); have RB4 : Two w4 (w.heap.size + 1) (0) (0) := qTw; have ⟨RB4_0, RB4_1, RB4_z, RB4_l⟩ := RB4) | (go_at_call 240; refine (HU.out _).mono ?_; rintro r5 w5 ⟨rfl, h5⟩; obtain ⟨hc5, hf5, hz5⟩ := qb h5; (try simp at hz5); (try have ⟨hl5_0, hk5_0⟩ := qL w.heap.size w5.heap.size); have RB5 : Two w5 (w.heap.size + 1) (0) (0) := qTw; have ⟨RB5_0, RB5_1, RB5_z, RB5_l⟩ := RB5))
   exact qt37
theorem sGo_wayV (s : ByteArray) (p n : Nat) (key ch : Int) (b : Bool) (w : World) (hs : s.size ≤ 1000) (hp : p ≤ s.size) (hn : n ≤ 99) (hk : isPlainWay key = true)
  (HA : qH 254 #[.string (s.extract p (fin s p)), .string ⟨#[40, 41, 91, 93, 123, 125]⟩] (.int .i64 (brkAt s p))) :
  qC 169 #[.int .u8 key, .agg #[.string s, .int .i64 (p), .int .i64 (n), .bool true, .bool false]] w (.tuple #[.agg #[.int .i64 (wayX (goWay s p key ch (max n 1) (decide (0 < n)) true b)), .int .i64 (wayK (goWay s p key ch (max n 1) (decide (0 < n)) true b))], .bool (wayZ (goWay s p key ch (max n 1) (decide (0 < n)) true b))]) := by
 simp only [isPlainWay, Bool.or_eq_true, beq_iff_eq] at hk
 rcases hk with ((((((((((((((((h | h) | h) | h) | h) | h) | h) | h) | h) | h) | h) | h) | h) | h) | h) | h) | h) | h
 all_goals subst h
 ·exact sGo_104 s p n true false w _ (fun ww => sInLine_h s p n true false ww hs hp hn)
 ·exact sGo_108 s p n true false w _ (fun ww => sInLine_l s p n true false ww hs hp hn (by simp only [mostL, if_true]; exact fin_ge s p))
 ·exact sGo_48 s p n true false w _ (fun ww => sInLine_0 s p n true false ww hs hp)
 ·exact sGo_94 s p n true false w _ (fun ww => sInLine_hat s p n true false ww hs hp)
 ·exact sGo_36 s p n true false w _ (fun ww => sInLine_eol s p n true false ww hs hp hn)
 ·exact sGo_106 s p n true false w _ (fun ww => sToLine_j s p n true false (decide (0 < n)) ww hs hp hn)
 ·exact sGo_107 s p n true false w _ (fun ww => sToLine_k s p n true false (decide (0 < n)) ww hs hp hn)
 ·exact sGo_71 s p n true false w _ (fun ww => sToNumber_any s p n true false 71 ww hs hp hn (Or.inl rfl))
 ·exact sGo_103 s p n true false w _ (fun ww => sToNumber_any s p n true false 103 ww hs hp hn (Or.inr rfl))
 ·exact sGo_119 s p n true false w _ (fun ww => sToWord_verb s p n false ww hs hp hn)
 ·exact sGo_87 s p n true false w _ (fun ww => sToWord_verb s p n true ww hs hp hn)
 ·exact sGo_98 s p n true false w _ (fun ww => sToAhead_any s p n true false false ww hs hp hn)
 ·exact sGo_66 s p n true false w _ (fun ww => sToAhead_any s p n true false true ww hs hp hn)
 ·exact sGo_101 s p n true false w _ (fun ww => sToWordEnd_any s p n true false false ww hs hp hn)
 ·exact sGo_69 s p n true false w _ (fun ww => sToWordEnd_any s p n true false true ww hs hp hn)
 ·exact sGo_125 s p n true false w _ (fun ww => sToPar_any s p n true false true 1 ww hs hp hn rfl)
 ·exact sGo_123 s p n true false w _ (fun ww => sToPar_any s p n true false false (-1) ww hs hp hn rfl)
 ·exact sGo_37 s p n true false w _ (fun ww => sToPartner_gen s p n true false ww hs hp HA)
theorem sFind_goV (s : ByteArray) (p n : Nat) (key ch : Int) (given : Bool) (w : World) (hs : s.size ≤ 1000) (hp : p ≤ s.size) (hn : n ≤ 99) (hk : isFind key = true) :
  qC 167 #[.agg #[.int .u8 key, .int .u8 ch], .agg #[.string s, .int .i64 (p), .int .i64 (n), .bool true, .bool false]] w (.tuple #[.agg #[.int .i64 (wayX (goWay s p key ch (max n 1) given true false)), .int .i64 (wayK (goWay s p key ch (max n 1) given true false))], .bool (wayZ (goWay s p key ch (max n 1) given true false))]) := by
 simp only [isFind, Bool.or_eq_true, beq_iff_eq] at hk
 have hk' : isFnd key := by unfold isFnd; omega
 refine sFindGo_gen s p n true false key ch w _ (fun ww => ?_)
 have := sGoFrom_any s p n 1 true false key ch ww hs hp hn qo qo hk'
 rcases hk with ((h | h) | h) | h <;> subst h <;> exact this
theorem sFind_againV (s : ByteArray) (p n : Nat) (key ch : Int) (given : Bool) (w : World) (hs : s.size ≤ 1000) (hp : p ≤ s.size) (hn : n ≤ 99) (hk : isFind key = true) :
  qC 183 #[.agg #[.int .u8 key, .int .u8 ch], .agg #[.string s, .int .i64 (p), .int .i64 (n), .bool true, .bool false]] w (.tuple #[.agg #[.int .i64 (wayX (goWay s p key ch (max n 1) given true true)), .int .i64 (wayK (goWay s p key ch (max n 1) given true true))], .bool (wayZ (goWay s p key ch (max n 1) given true true))]) := by
 simp only [isFind, Bool.or_eq_true, beq_iff_eq] at hk
 have hk' : isFnd key := by unfold isFnd; omega
 refine sFindAgain_gen s p n true false key ch w _ (fun ww => ?_)
 have h1 := sGoFrom_any s p n 1 true false key ch ww hs hp hn qo qo hk'
 have h2 := sGoFrom_any s p n 2 true false key ch ww hs hp hn qo qo hk'
 rcases hk with ((h | h) | h) | h <;> subst h
 ·exact h1
 ·exact h2
 ·exact h1
 ·exact h2
theorem sFind_again0V (s : ByteArray) (p n : Int) (ch : Int) (w : World) :
  qC 183 #[.agg #[.int .u8 0, .int .u8 ch], .agg #[.string s, .int .i64 (p), .int .i64 (n), .bool true, .bool false]] w (.tuple #[.agg #[.int .i64 (wayX (((0 : Int), (0 : Int), true))), .int .i64 (wayK (((0 : Int), (0 : Int), true)))], .bool (wayZ (((0 : Int), (0 : Int), true)))]) :=
 sFindAgain_gen s p n true false 0 ch w _ (fun ww => sGoFrom_none s p n _ ch true false ww)
theorem mDo_change (r d m : Nat) (p : Pg) (i j : Nat) (l : Bool) (t2 : ByteArray) (q : Nat) (f : Int → Value) (w : World) (h : RdAt w r d p) (hg : RgAt w m f) (hm : p.regs = .map (some m)) (hmr : m ≠ r) (hmd : m ≠ d) (hs : p.t.size ≤ 1000) (hs2 : t2.size ≤ 1000) (hij : i ≤ j) (hj : j ≤ p.t.size)
  (HD : qH 174 #[.int .u8 99, .string p.t, .agg #[.int .i64 i, .int .i64 j, .bool l], .int .i64 p.pl] (.tuple #[.string t2, .int .i64 q])) :
  Calls Tryz.prog 146 #[.pointer (some ⟨r, 0, none⟩), .int .u8 99, .agg #[.int .i64 i, .int .i64 j, .bool l]] w fun e w' => e = .returned (.int .i64 1) ∧ RdAt w' r d { p with t := t2, mode := 1, anchor := 0, pl := q } ∧ RgAt w' m (rgW f p.reg (tkn p.t i j l) l) ∧ Upd [d, m] w w' := by
 have HN : qH 172 #[.agg #[.int .i64 i, .int .i64 j, .bool l]] (.bool ((i : Int) == j && !l)) := fun ww => tNothing_any i j l ww
 generalize ((i : Int) == j && !l) = NB at *
 have HT : qH 173 #[.string p.t, .agg #[.int .i64 i, .int .i64 j, .bool l]] (.agg #[.string (tkn p.t i j l), .bool l]) := fun ww => mTaken_piece p.t i j l ww hs hij hj
 generalize tkn p.t i j l = X at *
 have HBc : Hid (∀ ww, RdAt ww r d p → Calls Tryz.prog 175 #[.pointer (some ⟨d, 0, none⟩), .string t2] ww fun e w' => e = .returned (.bool true) ∧ RdAt w' r d { p with t := t2 } ∧ Upd [d] ww w') := fun ww hh => mBecome r d p t2 ww hh hs2
 have hml := hg.lt
 have HWr : Hid (∀ ww, RgAt ww m f → Calls Tryz.prog 177 #[.map (some m), .int .u8 p.reg, .agg #[.string X, .bool l]] ww fun e w' => e = .returned (.tuple #[]) ∧ RgAt w' m (rgW f p.reg X l) ∧ Upd [m] ww w') := fun ww hh => rWrite_any m p.reg X l f ww hh
 generalize rgW f p.reg X l = f2 at *
 have HWs : qH 176 #[.int .u8 99] (.bool true) := fun ww => vWrites_any _ ww
 have HIa : Hid (∀ ww, RdAt ww r d { p with t := t2 } → Calls Tryz.prog 178 #[.pointer (some ⟨d, 0, none⟩), .int .i64 q] ww fun e w' => e = .returned (.int .i64 1) ∧ RdAt w' r d { p with t := t2, mode := 1, anchor := 0, pl := q } ∧ Upd [d] ww w') := fun ww hh => mInsertAt r d { p with t := t2 } q ww hh
 generalize hP6 : ({ p with t := t2, mode := 1, anchor := 0, pl := q } : Pg) = P6 at *
 generalize hP4 : ({ p with t := t2 } : Pg) = P4 at *
 have q4 : P4.regs = .map (some m) := by rw [← hP4]; exact hm
 have q4r : P4.reg = p.reg := by rw [← hP4]
 clear hP4 hP6
 have H := h
 obtain ⟨c0, c1, c2, c3, c4, c5, c6, c7, c8, c9, fz, lt⟩ := h.dk
 obtain ⟨b0, b1, b2, b3, b4, b5, bz, bl⟩ := h.bg
 clear c2 c3 c4 c5 c6 c7 c8 c9 b1 b2 b3 b4 b5 h
 have l1 : r < w.heap.size + 1 := by omega
 have l2 : d < w.heap.size + 1 := by omega
 have l3 : ¬ w.heap.size = d := by omega
 have l4 : ¬ w.heap.size = r := by omega
 cases NB
 all_goals
  go_enter func146, ntmps146
  go_wp2_with fail
  refine (HN.out _).mono ?_
  rintro e w1 ⟨rfl, h1⟩
  obtain ⟨hc1, hf1, hz1⟩ := qb h1
  try simp at hz1
  have d0 : w1.cell? ⟨d, 0, none⟩ = some (.string p.t) := by rw [hc1 _ _ qs]; go_simp
  have d1 : w1.cell? ⟨d, 1, none⟩ = some (.int .i64 p.pl) := by rw [hc1 _ _ qs]; go_simp
  have r0 : w1.cell? ⟨r, 0, none⟩ = some (.pointer (some ⟨d, 0, none⟩)) := by rw [hc1 _ _ qs]; go_simp
  have p0 : w1.cell? ⟨w.heap.size, 0, none⟩ = some (.int .i64 i) := by rw [hc1 _ _ qi]; simp
  have p1 : w1.cell? ⟨w.heap.size, 1, none⟩ = some (.int .i64 j) := by rw [hc1 _ _ qi]; simp
  have p2 : w1.cell? ⟨w.heap.size, 2, none⟩ = some (.bool l) := by rw [hc1 _ _ qi]; simp
  have k1 : r < w1.heap.size := by omega
  have k2 : d < w1.heap.size := by omega
  have k3 : w.heap.size < w1.heap.size := by omega
  clear hc1 hf1
  go_wp2_with fail
  go_region_held3 (fun ww => ww.cell? ⟨r, 0, none⟩ = some (.pointer (some ⟨d, 0, none⟩)) ∧ ww.cell? ⟨d, 0, none⟩ = some (.string p.t) ∧ ww.cell? ⟨w.heap.size, 0, none⟩ = some (.int .i64 i) ∧ ww.cell? ⟨w.heap.size, 1, none⟩ = some (.int .i64 j) ∧ ww.cell? ⟨w.heap.size, 2, none⟩ = some (.bool l)) (exact qK) (first | (go_at_call 173; with_reducible refine Calls.mono (HT.out (w1.alloc (.cells #[.string ⟨#[]⟩, .bool false] 99)).drew) ?_; rintro r2 w2 ⟨rfl, h2⟩; obtain ⟨hc2, hf2, hz2⟩ := qb h2; simp at hz2; have hn0 : w2.cell? ⟨w1.heap.size, 0, none⟩ = some (.string ⟨#[]⟩) := (hc2 (w1.heap.size) 0 qi).trans qi; have hn1 : w2.cell? ⟨w1.heap.size, 1, none⟩ = some (.bool false) := (hc2 (w1.heap.size) 1 qi).trans qi; have hq2 : ∀ o, w2.frozen? ⟨w1.heap.size, o, none⟩ = false := (fun o => (hf2 (w1.heap.size) o qi).trans qi); clear hc2 hf2) | (go_at_call 173; with_reducible refine Calls.mono (HT.out w1.drew) ?_; rintro r2 w2 ⟨rfl, h2⟩; have hz2 := h2.size; simp at hz2))
  rename_i hHeld
  have E : DoAt w (w2.alloc (.cells #[.string X, .bool l] 99)) r d m w.heap.size w2.heap.size p f i j l X := by
   exact qt32
  clear hHeld h1 h2 hz2 hg H d0 d1 r0 p0 p1 p2
  generalize (w2.alloc (.cells #[.string X, .bool l] 99)) = W at *
  generalize w2.heap.size = k at *
  rotate_left
  rename_i hHeld
  have E : DoAt w ((w2.setCell ⟨w1.heap.size, 0, none⟩ (.string X)).setCell ⟨w1.heap.size, 1, none⟩ (.bool l)) r d m w.heap.size w1.heap.size p f i j l X := by
   exact qt25
  clear hHeld h1 h2 hz2 hg H d0 d1 r0 p0 p1 p2
  generalize ((w2.setCell ⟨w1.heap.size, 0, none⟩ (.string X)).setCell ⟨w1.heap.size, 1, none⟩ (.bool l)) = W at *
  generalize w1.heap.size = k at *
  rotate_left
  all_goals
   obtain ⟨rd, rg, p0, p1, p2, x0, x1, lb, lk, up, lw⟩ := E
   have H := rd
   have r0 := rd.bg.c0
   have d0 := rd.dk.c0
   have d1 := rd.dk.c1
   have hlr := rd.bg.lt
   have hld := rd.dk.lt
   go_wp2_with fail
   go_region_held3 (fun ww => ww.cell? ⟨r, 0, none⟩ = some (.pointer (some ⟨d, 0, none⟩)) ∧ ww.cell? ⟨d, 0, none⟩ = some (.string p.t) ∧ ww.cell? ⟨d, 1, none⟩ = some (.int .i64 p.pl) ∧ ww.cell? ⟨w.heap.size, 0, none⟩ = some (.int .i64 i) ∧ ww.cell? ⟨w.heap.size, 1, none⟩ = some (.int .i64 j) ∧ ww.cell? ⟨w.heap.size, 2, none⟩ = some (.bool l)) (exact qK) ((go_at_call 174; refine Calls.mono (HD.out _) ?_; rintro r3 w3 ⟨rfl, h3⟩; have hz3 := h3.size; (try simp at hz3); (try have ⟨hl3_0, hk3_0⟩ := qL d w3.heap.size); (try have ⟨hl3_1, hk3_1⟩ := qL r w3.heap.size); (try have ⟨hl3_2, hk3_2⟩ := qL w.heap.size w3.heap.size)))
   have H3 := (rd.drew).below h3
   have G3 := (rg.drew).below h3
   have y0 := memLater h3 (memLater ((Below.refl _ _).drew) x0)
   have y1 := memLater h3 (memLater ((Below.refl _ _).drew) x1)
   have up3 : Below w.heap.size w w3 := by
    repeat exact qB
   clear rd rg x0 x1 up h3 H r0 d0 d1
   go_wp2_with fail
   refine Calls.mono (HBc.out _ H3) ?_
   rintro e4 w4 ⟨rfl, H4, u4⟩
   have G4 : RgAt w4 m f := G3.of_block (u4.block m G3.lt (by simp; exact hmd))
   have z0 := u4.was y0 qs
   have z1 := u4.was y1 qs
   go_wp2_with fail
   refine Calls.mono (HWs.out _) ?_
   rintro e5 w5 ⟨rfl, h5⟩
   have H5 := H4.below h5
   have G5 := G4.below h5
   have x0 := memLater h5 z0
   have x1 := memLater h5 z1
   have r0 := H5.bg.c0
   have r1 := H5.bg.c1
   have d4 := H5.dk.c4
   rw [q4] at d4
   rw [q4r] at r1
   go_wp2_with fail
   go_region_held3 (fun ww => ww.cell? ⟨r, 0, none⟩ = some (.pointer (some ⟨d, 0, none⟩)) ∧ ww.cell? ⟨r, 1, none⟩ = some (.int .u8 p.reg) ∧ ww.cell? ⟨d, 4, none⟩ = some (.map (some m)) ∧ ww.cell? ⟨k, 0, none⟩ = some (.string X) ∧ ww.cell? ⟨k, 1, none⟩ = some (.bool l)) (exact qK) ((go_at_call 177; with_reducible refine Calls.mono (HWr.out _ (RgAt.drew G5)) ?_; rintro e6 w6 ⟨rfl, G6, u6⟩; have a0 := u6.was (memLater ((Below.refl _ _).drew) r0) (by simp; exact Ne.symm hmr); have a1 := u6.was (memLater ((Below.refl _ _).drew) r1) (by simp; exact Ne.symm hmr); have a2 := u6.was (memLater ((Below.refl _ _).drew) d4) (by simp; exact Ne.symm hmd); have a3 := u6.was (memLater ((Below.refl _ _).drew) x0) qs; have a4 := u6.was (memLater ((Below.refl _ _).drew) x1) qs))
   have H6 : RdAt w6 r d P4 := (H5.drew).upd u6 (by simp; exact Ne.symm hmr) (by simp; exact Ne.symm hmd)
   have U6 : Upd [d, m] w w6 := by
    refine Upd.trans (Upd.drew (Upd.below (Upd.trans (Upd.of_below up3) (Upd.mono u4 qi)) h5)) (Upd.mono u6 qi)
   clear G5 r0 r1 d4 x0 x1 z0 z1 y0 y1 G4 G3 H3 H4 H5 u4 h5 u6 up3
   have r6 := H6.bg.c0
   go_wp2_with fail
   refine Calls.mono (HIa.out _ H6) ?_
   rintro e7 w7 ⟨rfl, H7, u7⟩
   have G7 : RgAt w7 m f2 := G6.of_block (u7.block m G6.lt (by simp; exact hmd))
   go_wp2
   go_ret
   exact ⟨rfl, H7, G7, U6.trans (u7.mono qi)⟩
