/- A part. -/
import Derived.Test.YtlendfhehhacpaaGreatT37
import Derived.Test.YtlendfhehhacpaaGreatT40
set_option linter.unusedVariables false
set_option linter.unusedSimpArgs false
set_option maxRecDepth 100000
set_option maxHeartbeats 8000000
namespace Go.Proofs.YtlendfhehhacpaaGreat
open Go.RowKit Nib Tryz
theorem sWord_c (s : ByteArray) (p n : Nat) (g : Bool) (hs : s.size ≤ 1000) (hp : p ≤ s.size) (hl : p ≤ lst s p) (hn : n ≤ 99) : ∃ R : Int × Int × Bool, (R.2.2 = false → Takes s p R) ∧ ∀ ww, qC 208 #[.agg #[.string s, .int .i64 (p), .int .i64 (n), .bool true, .bool true], .bool g] ww (.tuple #[.agg #[.int .i64 (wayX (R)), .int .i64 (wayK (R))], .bool (wayZ (R))]) := by
 cases hi : (decide (p < s.size) && !spc (bt s p)) with
 | true =>
  have h1 : p < s.size := by
   rw [Bool.and_eq_true] at hi
   exact of_decide_eq_true hi.1
  have h2 : bt s p ≠ 10 := by
   intro e
   rw [e] at hi
   simp [spc] at hi
  have hlt : itr (wes s g) (max n 1 - 1) (wrun s p g - 1) < s.size := itr_wes_lt (by
   have := wrun_gt (g := g) h1
   have := wrun_le (s := s) (p := p) (g := g) hp
   omega) _
  refine ⟨((itr (wes s g) (max n 1 - 1) (wrun s p g - 1) : Nat), 1, false), fun _ => ⟨_, rfl, by omega, Or.inr (Or.inl ⟨rfl, h1, hlt⟩)⟩, fun ww => ?_⟩
  exact sToWord_ink s p n g ww hs h1 h2 hn hi
 | false =>
  refine ⟨((wordQ s p (max n 1) g true : Int), 0, (wordQ s p (max n 1) g true : Int) == (p : Int)), fun h => ?_, fun ww => sToWord_noink s p n g ww hs hp hn hi⟩
  have := goWay_takes (s := s) (p := p) (n := max n 1) (if g then 87 else 119) 0 true false hp hl qo
  cases g
  ·exact this h
  ·exact this h
theorem sGo_wayC (s : ByteArray) (p n : Nat) (key : Int) (hs : s.size ≤ 1000) (hp : p ≤ s.size) (hl : p ≤ lst s p) (hn : n ≤ 99) (hk : isPlainWay key = true)
  (HA : qH 254 #[.string (s.extract p (fin s p)), .string ⟨#[40, 41, 91, 93, 123, 125]⟩] (.int .i64 (brkAt s p))) :
  ∃ R : Int × Int × Bool, (R.2.2 = false → Takes s p R) ∧ ∀ ww, qC 169 #[.int .u8 key, .agg #[.string s, .int .i64 (p), .int .i64 (n), .bool true, .bool true]] ww (.tuple #[.agg #[.int .i64 (wayX (R)), .int .i64 (wayK (R))], .bool (wayZ (R))]) := by
 have hT : ∀ k, (goWay s p k 0 (max n 1) (decide (0 < n)) true false).2.2 = false → Takes s p (goWay s p k 0 (max n 1) (decide (0 < n)) true false) := fun k h => goWay_takes k 0 _ false hp hl qo h
 by_cases hw : key = 119 ∨ key = 87
 ·rcases hw with hw | hw
  ·subst hw
   obtain ⟨R, h1, h2⟩ := sWord_c s p n false hs hp hl hn
   exact ⟨R, h1, fun ww => sGo_119 s p n true true ww _ h2⟩
  ·subst hw
   obtain ⟨R, h1, h2⟩ := sWord_c s p n true hs hp hl hn
   exact ⟨R, h1, fun ww => sGo_87 s p n true true ww _ h2⟩
 ·refine ⟨_, hT key, fun w => ?_⟩
  simp only [isPlainWay, Bool.or_eq_true, beq_iff_eq] at hk
  rcases hk with ((((((((((((((((h | h) | h) | h) | h) | h) | h) | h) | h) | h) | h) | h) | h) | h) | h) | h) | h) | h
  all_goals subst h
  ·exact sGo_104 s p n true true w _ (fun ww => sInLine_h s p n true true ww hs hp hn)
  ·exact sGo_108 s p n true true w _ (fun ww => sInLine_l s p n true true ww hs hp hn (by simp only [mostL, if_true]; exact fin_ge s p))
  ·exact sGo_48 s p n true true w _ (fun ww => sInLine_0 s p n true true ww hs hp)
  ·exact sGo_94 s p n true true w _ (fun ww => sInLine_hat s p n true true ww hs hp)
  ·exact sGo_36 s p n true true w _ (fun ww => sInLine_eol s p n true true ww hs hp hn)
  ·exact sGo_106 s p n true true w _ (fun ww => sToLine_j s p n true true (decide (0 < n)) ww hs hp hn)
  ·exact sGo_107 s p n true true w _ (fun ww => sToLine_k s p n true true (decide (0 < n)) ww hs hp hn)
  ·exact sGo_71 s p n true true w _ (fun ww => sToNumber_any s p n true true 71 ww hs hp hn (Or.inl rfl))
  ·exact sGo_103 s p n true true w _ (fun ww => sToNumber_any s p n true true 103 ww hs hp hn (Or.inr rfl))
  ·exact absurd (Or.inl rfl) hw
  ·exact absurd (Or.inr rfl) hw
  ·exact sGo_98 s p n true true w _ (fun ww => sToAhead_any s p n true true false ww hs hp hn)
  ·exact sGo_66 s p n true true w _ (fun ww => sToAhead_any s p n true true true ww hs hp hn)
  ·exact sGo_101 s p n true true w _ (fun ww => sToWordEnd_any s p n true true false ww hs hp hn)
  ·exact sGo_69 s p n true true w _ (fun ww => sToWordEnd_any s p n true true true ww hs hp hn)
  ·exact sGo_125 s p n true true w _ (fun ww => sToPar_any s p n true true true 1 ww hs hp hn rfl)
  ·exact sGo_123 s p n true true w _ (fun ww => sToPar_any s p n true true false (-1) ww hs hp hn rfl)
  ·exact sGo_37 s p n true true w _ (fun ww => sToPartner_gen s p n true true ww hs hp HA)
theorem sFind_goC (s : ByteArray) (p n : Nat) (key ch : Int) (given : Bool) (w : World) (hs : s.size ≤ 1000) (hp : p ≤ s.size) (hn : n ≤ 99) (hk : isFind key = true) :
  qC 167 #[.agg #[.int .u8 key, .int .u8 ch], .agg #[.string s, .int .i64 (p), .int .i64 (n), .bool true, .bool true]] w (.tuple #[.agg #[.int .i64 (wayX (goWay s p key ch (max n 1) given true false)), .int .i64 (wayK (goWay s p key ch (max n 1) given true false))], .bool (wayZ (goWay s p key ch (max n 1) given true false))]) := by
 simp only [isFind, Bool.or_eq_true, beq_iff_eq] at hk
 have hk' : isFnd key := by unfold isFnd; omega
 refine sFindGo_gen s p n true true key ch w _ (fun ww => ?_)
 have := sGoFrom_any s p n 1 true true key ch ww hs hp hn qo qo hk'
 rcases hk with ((h | h) | h) | h <;> subst h <;> exact this
theorem sFind_againC (s : ByteArray) (p n : Nat) (key ch : Int) (given : Bool) (w : World) (hs : s.size ≤ 1000) (hp : p ≤ s.size) (hn : n ≤ 99) (hk : isFind key = true) :
  qC 183 #[.agg #[.int .u8 key, .int .u8 ch], .agg #[.string s, .int .i64 (p), .int .i64 (n), .bool true, .bool true]] w (.tuple #[.agg #[.int .i64 (wayX (goWay s p key ch (max n 1) given true true)), .int .i64 (wayK (goWay s p key ch (max n 1) given true true))], .bool (wayZ (goWay s p key ch (max n 1) given true true))]) := by
 simp only [isFind, Bool.or_eq_true, beq_iff_eq] at hk
 have hk' : isFnd key := by unfold isFnd; omega
 refine sFindAgain_gen s p n true true key ch w _ (fun ww => ?_)
 have h1 := sGoFrom_any s p n 1 true true key ch ww hs hp hn qo qo hk'
 have h2 := sGoFrom_any s p n 2 true true key ch ww hs hp hn qo qo hk'
 rcases hk with ((h | h) | h) | h <;> subst h
 ·exact h1
 ·exact h2
 ·exact h1
 ·exact h2
theorem sFind_again0C (s : ByteArray) (p n : Int) (ch : Int) (w : World) :
  qC 183 #[.agg #[.int .u8 0, .int .u8 ch], .agg #[.string s, .int .i64 (p), .int .i64 (n), .bool true, .bool true]] w (.tuple #[.agg #[.int .i64 (wayX (((0 : Int), (0 : Int), true))), .int .i64 (wayK (((0 : Int), (0 : Int), true)))], .bool (wayZ (((0 : Int), (0 : Int), true)))]) :=
 sFindAgain_gen s p n true true 0 ch w _ (fun ww => sGoFrom_none s p n _ ch true true ww)
theorem tSeekE_any (s : ByteArray) (cl op : Int) (q d : Nat) (w : World) (hs : s.size ≤ 1000) (hq : q ≤ s.size) (hd : d ≤ 1) (hd0 : 1 ≤ d ∨ bt s q = cl) (hc : (cl = 41 ∧ op = 40) ∨ (cl = 93 ∧ op = 91) ∨ (cl = 125 ∧ op = 123)) :
  qC 287 #[.string s, .int .u8 cl, .int .i64 q, .int .i64 d] w (.tuple #[.int .i64 (mtI (mtD s cl op d (q + 1))), .bool (mtB (mtD s cl op d (q + 1)))]) := by
 rcases hc with ⟨rfl, rfl⟩ | ⟨rfl, rfl⟩ | ⟨rfl, rfl⟩
 ·exact tSeekE_41 s q d w hs hq hd hd0
 ·exact tSeekE_93 s q d w hs hq hd hd0
 ·exact tSeekE_125 s q d w hs hq hd hd0
def BrK (key : Int) (ki : Nat) (cl op : Int) : Prop := (key = 40 ∧ ki = 0 ∧ cl = 41 ∧ op = 40) ∨ (key = 41 ∧ ki = 1 ∧ cl = 41 ∧ op = 40) ∨ (key = 91 ∧ ki = 2 ∧ cl = 93 ∧ op = 91) ∨ (key = 93 ∧ ki = 3 ∧ cl = 93 ∧ op = 91) ∨ (key = 123 ∧ ki = 4 ∧ cl = 125 ∧ op = 123) ∨ (key = 125 ∧ ki = 5 ∧ cl = 125 ∧ op = 123)
theorem tAround (s : ByteArray) (key cl op : Int) (ki q : Nat) (hs : s.size ≤ 1000) (hq : q ≤ s.size) (hk : BrK key ki cl op) :
  ∃ (i j : Nat) (is : Bool), (is = true → i + 2 ≤ j) ∧ i ≤ j ∧ j ≤ s.size ∧ ∀ ww, qC 260 #[.string s, .int .i64 q, .int .u8 key] ww (.tuple #[.agg #[.int .i64 (i), .int .i64 (j)], .bool is]) := by
 have hcl : (cl = 41 ∧ op = 40) ∨ (cl = 93 ∧ op = 91) ∨ (cl = 125 ∧ op = 123) := by unfold BrK at hk; omega
 obtain ⟨d, hd, hd0, hdc⟩ : ∃ d : Nat, d ≤ 1 ∧ (1 ≤ d ∨ bt s q = cl) ∧ ((d = 0 ∧ q < s.size ∧ bt s q = cl) ∨ (d = 1 ∧ ¬ (q < s.size ∧ bt s q = cl))) := by
  by_cases h : q < s.size ∧ bt s q = cl
  ·exact ⟨0, by omega, Or.inr h.2, Or.inl ⟨rfl, h.1, h.2⟩⟩
  ·exact ⟨1, by omega, Or.inl (Nat.le_refl _), Or.inr ⟨rfl, h⟩⟩
 obtain ⟨k1, hk1, hix, hbx, hel⟩ : ∃ k1 : Nat, ∃ hk1 : k1 < 6, firstIdx ⟨#[40, 41, 91, 93, 123, 125]⟩ key.toNat.toUInt8 = (ki : Int) ∧ bits BinOp.or IntKind.i64 (ki : Int) 1 = (k1 : Int) ∧ (((⟨#[40, 41, 91, 93, 123, 125]⟩ : ByteArray)[k1]'hk1).toNat : Int) = cl := by
  unfold BrK at hk
  rcases hk with ⟨rfl, rfl, rfl, rfl⟩ | ⟨rfl, rfl, rfl, rfl⟩ | ⟨rfl, rfl, rfl, rfl⟩ | ⟨rfl, rfl, rfl, rfl⟩ | ⟨rfl, rfl, rfl, rfl⟩ | ⟨rfl, rfl, rfl, rfl⟩
  ·exact ⟨1, by decide, by decide, by decide, by decide⟩
  ·exact ⟨1, by decide, by decide, by decide, by decide⟩
  ·exact ⟨3, by decide, by decide, by decide, by decide⟩
  ·exact ⟨3, by decide, by decide, by decide, by decide⟩
  ·exact ⟨5, by decide, by decide, by decide, by decide⟩
  ·exact ⟨5, by decide, by decide, by decide, by decide⟩
 have HS : qH 287 #[.string s, .int .u8 cl, .int .i64 q, .int .i64 d] (.tuple #[.int .i64 (mtI (mtD s cl op d (q + 1))), .bool (mtB (mtD s cl op d (q + 1)))]) := fun ww => tSeekE_any s cl op q d ww hs hq hd hd0 hcl
 have hab : cl ≠ op := by omega
 have hbr := mtD_other (s := s) hab (q + 1) d qo (by rw [Nat.add_sub_cancel]; rcases hd0 with h | h; (exact Or.inl qo); (exact Or.inr ⟨by omega, h⟩))
 have hlt := mtD_lt (s := s) (a := cl) (b := op) (q + 1) d
 have hi1 : (0 : Int) ≤ (k1 : Int) := by omega
 have hi2 : (k1 : Int) < 6 := by omega
 have hQ : (d = 0 ∧ ∃ h : q < s.size, (((s[q]'h).toNat : Int) == cl) = true) ∨ (d = 1 ∧ ∃ h : q < s.size, (((s[q]'h).toNat : Int) == cl) = false) ∨ (d = 1 ∧ ¬ q < s.size) := by
  rcases hdc with ⟨h1, h2, h3⟩ | ⟨h1, h2⟩
  ·exact Or.inl ⟨h1, h2, by rw [← bt_in h2]; simp [h3]⟩
  ·by_cases h3 : q < s.size
   ·exact Or.inr (Or.inl ⟨h1, h3, by
     rw [← bt_in h3]
     simp
     exact fun e => h2 ⟨h3, e⟩⟩)
   ·exact Or.inr (Or.inr ⟨h1, h3⟩)
 obtain ⟨dI, hdI⟩ : ∃ dI : Int, (d : Int) = dI := ⟨_, rfl⟩
 generalize mtD s cl op d (q + 1) = X at *
 rw [hdI] at HS
 have hQ : (dI = 0 ∧ ∃ h : q < s.size, (((s[q]'h).toNat : Int) == cl) = true) ∨ (dI = 1 ∧ ∃ h : q < s.size, (((s[q]'h).toNat : Int) == cl) = false) ∨ (dI = 1 ∧ ¬ q < s.size) := by
  rcases hQ with ⟨h, h2⟩ | ⟨h, h2⟩ | ⟨h, h2⟩
  ·exact Or.inl ⟨by omega, h2⟩
  ·exact Or.inr (Or.inl ⟨by omega, h2⟩)
  ·exact Or.inr (Or.inr ⟨by omega, h2⟩)
 by_cases hX : X < 0
 ·have e1 : mtI X = 0 := by unfold mtI; rw [if_pos hX]
  have e2 : mtB X = false := by unfold mtB; rw [decide_eq_false qo]
  rw [e1, e2] at HS
  refine ⟨0, 0, false, (fun h => by cases h), Nat.le_refl _, Nat.zero_le _, fun w => ?_⟩
  clear e1 e2 hX hbr hlt hdc hd0 hk hcl hdI hd
  rcases hQ with ⟨hd1, hqs, hcc⟩ | ⟨hd1, hqs, hcc⟩ | ⟨hd1, hqs⟩
  all_goals
   subst hd1
   go_enter func260, ntmps260
   go_wp2_with fail
   refine (indexByte_any ⟨#[40, 41, 91, 93, 123, 125]⟩ key _).mono ?_
   rintro e w9 ⟨rfl, h9⟩
   have h9 := h9.symm
   subst h9
   rw [hix]
   have R : Two (w.alloc (.cells #[.int .i64 0, .int .i64 0] 128)) w.heap.size 0 0 := Two.new _ _ _ _
   go_wp2_with fail
   refine (HS.out _).mono ?_
   rintro r1 w1 ⟨rfl, h1⟩
   obtain ⟨hc1, hf1, hz1⟩ := qb h1
   (try simp at hz1)
   have R1 : Two w1 (w.heap.size) (0) (0) := qTw
   have ⟨R1_0, R1_1, R1_z, R1_l⟩ := R1
   clear hc1 hf1
   go_wp2
   exact qV (.tuple #[.agg #[.int .i64 (0), .int .i64 (0)], .bool false]) (by simp [results, results260, go_sem, R1_0, R1_1, R1_z, R1_l]) rfl
 ·obtain ⟨F, hF⟩ : ∃ F : Nat, X = F := ⟨X.toNat, by omega⟩
  have hbF : bt s F = op := by
   have := hbr qo
   rw [hF] at this
   simpa using this
  have hFs : F < s.size := by
   by_cases h : F < s.size
   ·exact h
   ·rw [bt_out h] at hbF
    omega
  have hpo : prt (bt s F) ≠ 0 := by
   rw [hbF]
   rcases hcl with ⟨_, rfl⟩ | ⟨_, rfl⟩ | ⟨_, rfl⟩ <;> decide
  have hop : opn (bt s F) = true := by
   rw [hbF]
   rcases hcl with ⟨_, rfl⟩ | ⟨_, rfl⟩ | ⟨_, rfl⟩ <;> decide
  have e1 : mtI X = F := by unfold mtI; rw [if_neg qo, hF]
  have e2 : mtB X = true := by unfold mtB; rw [decide_eq_true qo]
  rw [e1, e2] at HS
  have HP : qH 255 #[.string s, .int .i64 F] (.tuple #[.int .i64 (mtI (mtch s F)), .bool (mtB (mtch s F))]) := fun ww => tPartner_any s F ww hs hFs hpo
  have hml := mtch_lt hFs
  have hmg := mtch_gt hFs hop
  generalize mtch s F = Y at *
  by_cases hY : Y < 0
  ·have e3 : mtI Y = 0 := by unfold mtI; rw [if_pos hY]
   have e4 : mtB Y = false := by unfold mtB; rw [decide_eq_false qo]
   rw [e3, e4] at HP
   refine ⟨0, 0, false, (fun h => by cases h), Nat.le_refl _, Nat.zero_le _, fun w => ?_⟩
   clear e1 e2 e3 e4 hX hbr hlt hdc hd0 hk hcl hdI hd hF hbF hpo hop hml hmg hY
   rcases hQ with ⟨hd1, hqs, hcc⟩ | ⟨hd1, hqs, hcc⟩ | ⟨hd1, hqs⟩
   all_goals
    subst hd1
    go_enter func260, ntmps260
    go_wp2_with fail
    refine (indexByte_any ⟨#[40, 41, 91, 93, 123, 125]⟩ key _).mono ?_
    rintro e w9 ⟨rfl, h9⟩
    have h9 := h9.symm
    subst h9
    rw [hix]
    have R : Two (w.alloc (.cells #[.int .i64 0, .int .i64 0] 128)) w.heap.size 0 0 := Two.new _ _ _ _
    go_wp2_with fail
    refine (HS.out _).mono ?_
    rintro r1 w1 ⟨rfl, h1⟩
    obtain ⟨hc1, hf1, hz1⟩ := qb h1
    (try simp at hz1)
    have R1 : Two w1 (w.heap.size) (0) (0) := qTw
    have ⟨R1_0, R1_1, R1_z, R1_l⟩ := R1
    clear hc1 hf1
    go_wp2_with fail
    refine (HP.out _).mono ?_
    rintro r2 w2 ⟨rfl, h2⟩
    obtain ⟨hc2, hf2, hz2⟩ := qb h2
    (try simp at hz2)
    have R2 : Two w2 (w.heap.size) (0) (0) := qTw
    have ⟨R2_0, R2_1, R2_z, R2_l⟩ := R2
    clear hc2 hf2
    go_wp2
    exact qV (.tuple #[.agg #[.int .i64 (0), .int .i64 (0)], .bool false]) (by simp [results, results260, go_sem, R2_0, R2_1, R2_z, R2_l]) rfl
  ·obtain ⟨L, hL⟩ : ∃ L : Nat, Y = L := ⟨Y.toNat, by omega⟩
   have e3 : mtI Y = L := by unfold mtI; rw [if_neg qo, hL]
   have e4 : mtB Y = true := by unfold mtB; rw [decide_eq_true qo]
   rw [e3, e4] at HP
   have hFL := hmg qo
   refine ⟨F, L + 1, true, (fun _ => by omega), by omega, by omega, fun w => ?_⟩
   have hwr : IntKind.i64.wrap ((L : Int) + 1) = (L : Int) + 1 := by rw [IntKind.wrap_i64]; omega
   rw [show ((L + 1 : Nat) : Int) = (L : Int) + 1 by omega]
   clear e1 e2 e3 e4 hX hbr hlt hdc hd0 hk hcl hdI hd hF hbF hpo hop hml hmg hY hL hFL
   rcases hQ with ⟨hd1, hqs, hcc⟩ | ⟨hd1, hqs, hcc⟩ | ⟨hd1, hqs⟩
   all_goals
    subst hd1
    go_enter func260, ntmps260
    go_wp2_with fail
    refine (indexByte_any ⟨#[40, 41, 91, 93, 123, 125]⟩ key _).mono ?_
    rintro e w9 ⟨rfl, h9⟩
    have h9 := h9.symm
    subst h9
    rw [hix]
    have R : Two (w.alloc (.cells #[.int .i64 0, .int .i64 0] 128)) w.heap.size 0 0 := Two.new _ _ _ _
    go_wp2_with fail
    refine (HS.out _).mono ?_
    rintro r1 w1 ⟨rfl, h1⟩
    obtain ⟨hc1, hf1, hz1⟩ := qb h1
    (try simp at hz1)
    have R1 : Two w1 (w.heap.size) (0) (0) := qTw
    have ⟨R1_0, R1_1, R1_z, R1_l⟩ := R1
    clear hc1 hf1
    go_wp2_with fail
    refine (HP.out _).mono ?_
    rintro r2 w2 ⟨rfl, h2⟩
    obtain ⟨hc2, hf2, hz2⟩ := qb h2
    (try simp at hz2)
    have R2 : Two w2 (w.heap.size) (0) (0) := qTw
    have ⟨R2_0, R2_1, R2_z, R2_l⟩ := R2
    clear hc2 hf2
    go_wp2
    exact qV (.tuple #[.agg #[.int .i64 (F), .int .i64 ((L : Int) + 1)], .bool true]) (by simp [results, results260, go_sem, R2_0, R2_1, R2_z, R2_l]) rfl
theorem oBrackets (s : ByteArray) (p : Nat) (key cl op : Int) (ki : Nat) (wh : Bool) (hs : s.size ≤ 1000) (hp : p ≤ s.size) (hk : BrK key ki cl op) : GivesO 215 #[.agg #[.string s, .int .i64 p, .bool wh], .int .u8 key] s := by
 obtain ⟨i, j, is, h1, h2, h3, HA⟩ := tAround s key cl op ki p hs hp hk
 have HA : qH 260 #[.string s, .int .i64 p, .int .u8 key] (.tuple #[.agg #[.int .i64 (i), .int .i64 (j)], .bool is]) := HA
 cases is with
 | false =>
  refine ⟨0, 0, false, false, Nat.le_refl _, Nat.zero_le _, fun w => ?_⟩
  go_enter func215, ntmps215
  have G : Tri ((w.alloc (.cells #[.string s, .int .i64 p, .bool wh] 213)).alloc (.cells #[.int .i64 0, .int .i64 0, .bool false] 186)) w.heap.size s p wh := Tri.alloc (Tri.new _ _ _ _ _) _
  have Q : Tre ((w.alloc (.cells #[.string s, .int .i64 p, .bool wh] 213)).alloc (.cells #[.int .i64 0, .int .i64 0, .bool false] 186)) (w.heap.size + 1) 0 0 false := by have := Tre.new (w.alloc (.cells #[.string s, .int .i64 p, .bool wh] 213)) 0 0 false 186; simpa using this
  go_wp2_with fail
  refine (HA.out _).mono ?_
  rintro r1 w1 ⟨rfl, h1⟩
  obtain ⟨hc1, hf1, hz1⟩ := qb h1
  (try simp at hz1)
  have G1 : Tri w1 (w.heap.size) (s) (p) (wh) := qTi
  have ⟨G1_0, G1_1, G1_2, G1_z, G1_l⟩ := G1
  have Q1 : Tre w1 (w.heap.size + 1) (0) (0) (false) := qTe
  have ⟨Q1_0, Q1_1, Q1_2, Q1_z, Q1_l⟩ := Q1
  clear hc1 hf1
  go_wp2
  exact qV (.tuple #[.agg #[.int .i64 0, .int .i64 0, .bool false], .bool false]) (by simp [results, results215, go_sem, Q1_0, Q1_1, Q1_2, Q1_z, Q1_l]) rfl
 | true =>
  have h4 := h1 rfl
  have HP : qH 261 #[.agg #[.string s, .int .i64 p, .bool wh], .agg #[.int .i64 (i), .int .i64 (j)]] (.agg #[.int .i64 (if wh then (i : Int) else (i : Int) + 1), .int .i64 (if wh then (j : Int) else (j : Int) - 1), .bool false]) := fun ww => oPair s p i j wh ww qo qo
  obtain ⟨a, b, ha, hb, hab, hbs⟩ : ∃ a b : Nat, (if wh then (i : Int) else (i : Int) + 1) = (a : Int) ∧ (if wh then (j : Int) else (j : Int) - 1) = (b : Int) ∧ a ≤ b ∧ b ≤ s.size := by
   cases wh
   ·exact ⟨i + 1, j - 1, by simp, by simp; omega, by omega, by omega⟩
   ·exact ⟨i, j, by simp, by simp, by omega, by omega⟩
  rw [ha, hb] at HP
  refine ⟨a, b, false, true, hab, hbs, fun w => ?_⟩
  clear ha hb h1 h4
  go_enter func215, ntmps215
  have G : Tri ((w.alloc (.cells #[.string s, .int .i64 p, .bool wh] 213)).alloc (.cells #[.int .i64 0, .int .i64 0, .bool false] 186)) w.heap.size s p wh := Tri.alloc (Tri.new _ _ _ _ _) _
  have Q : Tre ((w.alloc (.cells #[.string s, .int .i64 p, .bool wh] 213)).alloc (.cells #[.int .i64 0, .int .i64 0, .bool false] 186)) (w.heap.size + 1) 0 0 false := by have := Tre.new (w.alloc (.cells #[.string s, .int .i64 p, .bool wh] 213)) 0 0 false 186; simpa using this
  go_wp2_with fail
  refine (HA.out _).mono ?_
  rintro r1 w1 ⟨rfl, h1⟩
  obtain ⟨hc1, hf1, hz1⟩ := qb h1
  (try simp at hz1)
  have G1 : Tri w1 (w.heap.size) (s) (p) (wh) := qTi
  have ⟨G1_0, G1_1, G1_2, G1_z, G1_l⟩ := G1
  have Q1 : Tre w1 (w.heap.size + 1) (0) (0) (false) := qTe
  have ⟨Q1_0, Q1_1, Q1_2, Q1_z, Q1_l⟩ := Q1
  clear hc1 hf1
  go_wp2_with fail
  refine (HP.out _).mono ?_
  rintro r2 w2 ⟨rfl, h2⟩
  obtain ⟨hc2, hf2, hz2⟩ := qb h2
  (try simp at hz2)
  have G2 : Tri w2 (w.heap.size) (s) (p) (wh) := qTi
  have ⟨G2_0, G2_1, G2_2, G2_z, G2_l⟩ := G2
  have Q2 : Tre w2 (w.heap.size + 1) (0) (0) (false) := qTe
  have ⟨Q2_0, Q2_1, Q2_2, Q2_z, Q2_l⟩ := Q2
  clear hc2 hf2
  go_wp2
  exact qV (.tuple #[.agg #[.int .i64 a, .int .i64 b, .bool false], .bool true]) (by simp [results, results215, go_sem, Q2_0, Q2_1, Q2_2, Q2_z, Q2_l]) rfl
theorem oFind_none (s : ByteArray) (p key : Int) (wh : Bool) (w : World) (hk : ∀ c, c ∈ ([119, 87, 40, 41, 91, 93, 123, 125, 34, 39, 112] : List Int) → ¬ key = c) :
  qC 171 #[.int .u8 key, .agg #[.string s, .int .i64 p, .bool wh]] w (.tuple #[.agg #[.int .i64 0, .int .i64 0, .bool false], .bool false]) := by
 have k1 : (key == 119) = false := by simp [hk 119 qi]
 have k2 : (key == 87) = false := by simp [hk 87 qi]
 have k3 : (key == 40) = false := by simp [hk 40 qi]
 have k4 : (key == 41) = false := by simp [hk 41 qi]
 have k5 : (key == 91) = false := by simp [hk 91 qi]
 have k6 : (key == 93) = false := by simp [hk 93 qi]
 have k7 : (key == 123) = false := by simp [hk 123 qi]
 have k8 : (key == 125) = false := by simp [hk 125 qi]
 have k9 : (key == 34) = false := by simp [hk 34 qi]
 have k10 : (key == 39) = false := by simp [hk 39 qi]
 have k11 : (key == 112) = false := by simp [hk 112 qi]
 clear hk
 go_enter func171, ntmps171
 go_wp2
 exact qV (.tuple #[.agg #[.int .i64 0, .int .i64 0, .bool false], .bool false]) (by simp [results, results171, go_sem]) rfl
theorem qt44 {P : Prop} (h : P := by
  rcases hk with hk | hk
  all_goals
   subst hk
   go_enter func171, ntmps171
   have Q : Tre ((w.alloc (.cells #[.string s, .int .i64 p, .bool wh] 213)).alloc (.cells #[.int .i64 0, .int .i64 0, .bool false] 186)) (w.heap.size + 1) 0 0 false := by have := Tre.new (w.alloc (.cells #[.string s, .int .i64 p, .bool wh] 213)) 0 0 false 186; simpa using this
   go_wp2_with fail
   refine (H.out _).mono ?_
   rintro r1 w1 ⟨rfl, h1⟩
   obtain ⟨hc1, hf1, hz1⟩ := qb h1
   (try simp at hz1)
   have Q1 : Tre w1 (w.heap.size + 1) (0) (0) (false) := qTe
   have ⟨Q1_0, Q1_1, Q1_2, Q1_z, Q1_l⟩ := Q1
   clear hc1 hf1
   go_wp2
   exact qV (.tuple #[.agg #[.int .i64 a, .int .i64 b, .bool l], .bool is]) (by simp [results, results171, go_sem, Q1_0, Q1_1, Q1_2, Q1_z, Q1_l]) rfl
 ) : P := h
theorem oFind_w (s : ByteArray) (p key a b : Int) (wh l is : Bool) (w : World) (hk : key = 119 ∨ key = 87)
  (H : qH 214 #[.agg #[.string s, .int .i64 p, .bool wh], .bool (key == 87)] (.tuple #[.agg #[.int .i64 a, .int .i64 b, .bool l], .bool is])) :
  qC 171 #[.int .u8 key, .agg #[.string s, .int .i64 p, .bool wh]] w (.tuple #[.agg #[.int .i64 a, .int .i64 b, .bool l], .bool is]) := by
 exact qt44
theorem oFind_b (s : ByteArray) (p key a b : Int) (wh l is : Bool) (w : World) (hk : key = 40 ∨ key = 41 ∨ key = 91 ∨ key = 93 ∨ key = 123 ∨ key = 125)
  (H : qH 215 #[.agg #[.string s, .int .i64 p, .bool wh], .int .u8 key] (.tuple #[.agg #[.int .i64 a, .int .i64 b, .bool l], .bool is])) :
  qC 171 #[.int .u8 key, .agg #[.string s, .int .i64 p, .bool wh]] w (.tuple #[.agg #[.int .i64 a, .int .i64 b, .bool l], .bool is]) := by
 rcases hk with hk | hk | hk | hk | hk | hk
 all_goals
  subst hk
  go_enter func171, ntmps171
  have Q : Tre ((w.alloc (.cells #[.string s, .int .i64 p, .bool wh] 213)).alloc (.cells #[.int .i64 0, .int .i64 0, .bool false] 186)) (w.heap.size + 1) 0 0 false := by have := Tre.new (w.alloc (.cells #[.string s, .int .i64 p, .bool wh] 213)) 0 0 false 186; simpa using this
  go_wp2_with fail
  refine (H.out _).mono ?_
  rintro r1 w1 ⟨rfl, h1⟩
  obtain ⟨hc1, hf1, hz1⟩ := qb h1
  (try simp at hz1)
  have Q1 : Tre w1 (w.heap.size + 1) (0) (0) (false) := qTe
  have ⟨Q1_0, Q1_1, Q1_2, Q1_z, Q1_l⟩ := Q1
  clear hc1 hf1
  go_wp2
  exact qV (.tuple #[.agg #[.int .i64 a, .int .i64 b, .bool l], .bool is]) (by simp [results, results171, go_sem, Q1_0, Q1_1, Q1_2, Q1_z, Q1_l]) rfl
theorem oFind_q (s : ByteArray) (p key a b : Int) (wh l is : Bool) (w : World) (hk : key = 34 ∨ key = 39)
  (H : qH 216 #[.agg #[.string s, .int .i64 p, .bool wh], .int .u8 key] (.tuple #[.agg #[.int .i64 a, .int .i64 b, .bool l], .bool is])) :
  qC 171 #[.int .u8 key, .agg #[.string s, .int .i64 p, .bool wh]] w (.tuple #[.agg #[.int .i64 a, .int .i64 b, .bool l], .bool is]) := by
 exact qt44
theorem oFind_p (s : ByteArray) (p a b : Int) (wh l is : Bool) (w : World)
  (H : qH 217 #[.agg #[.string s, .int .i64 p, .bool wh]] (.tuple #[.agg #[.int .i64 a, .int .i64 b, .bool l], .bool is])) :
  qC 171 #[.int .u8 112, .agg #[.string s, .int .i64 p, .bool wh]] w (.tuple #[.agg #[.int .i64 a, .int .i64 b, .bool l], .bool is]) := by
 go_enter func171, ntmps171
 have Q : Tre ((w.alloc (.cells #[.string s, .int .i64 p, .bool wh] 213)).alloc (.cells #[.int .i64 0, .int .i64 0, .bool false] 186)) (w.heap.size + 1) 0 0 false := by have := Tre.new (w.alloc (.cells #[.string s, .int .i64 p, .bool wh] 213)) 0 0 false 186; simpa using this
 go_wp2_with fail
 refine (H.out _).mono ?_
 rintro r1 w1 ⟨rfl, h1⟩
 obtain ⟨hc1, hf1, hz1⟩ := qb h1
 (try simp at hz1)
 have Q1 : Tre w1 (w.heap.size + 1) (0) (0) (false) := qTe
 have ⟨Q1_0, Q1_1, Q1_2, Q1_z, Q1_l⟩ := Q1
 clear hc1 hf1
 go_wp2
 exact qV (.tuple #[.agg #[.int .i64 a, .int .i64 b, .bool l], .bool is]) (by simp [results, results171, go_sem, Q1_0, Q1_1, Q1_2, Q1_z, Q1_l]) rfl
theorem oFind (s : ByteArray) (p : Nat) (key : Int) (wh : Bool) (hs : s.size ≤ 1000) (hp : p ≤ s.size) : GivesO 171 #[.int .u8 key, .agg #[.string s, .int .i64 p, .bool wh]] s := by
 by_cases h1 : key = 119 ∨ key = 87
 ·obtain ⟨a, b, l, is, k1, k2, H⟩ := oWord s p wh (key == 87) hs hp
  exact ⟨a, b, l, is, k1, k2, fun ww => oFind_w s p key a b wh l is ww h1 H⟩
 ·by_cases h2 : key = 40 ∨ key = 41 ∨ key = 91 ∨ key = 93 ∨ key = 123 ∨ key = 125
  ·obtain ⟨ki, cl, op, hk⟩ : ∃ ki cl op, BrK key ki cl op := by
    unfold BrK
    rcases h2 with h | h | h | h | h | h
    ·exact ⟨0, 41, 40, Or.inl ⟨h, rfl, rfl, rfl⟩⟩
    ·exact ⟨1, 41, 40, Or.inr (Or.inl ⟨h, rfl, rfl, rfl⟩)⟩
    ·exact ⟨2, 93, 91, Or.inr (Or.inr (Or.inl ⟨h, rfl, rfl, rfl⟩))⟩
    ·exact ⟨3, 93, 91, Or.inr (Or.inr (Or.inr (Or.inl ⟨h, rfl, rfl, rfl⟩)))⟩
    ·exact ⟨4, 125, 123, Or.inr (Or.inr (Or.inr (Or.inr (Or.inl ⟨h, rfl, rfl, rfl⟩))))⟩
    ·exact ⟨5, 125, 123, Or.inr (Or.inr (Or.inr (Or.inr (Or.inr ⟨h, rfl, rfl, rfl⟩))))⟩
   obtain ⟨a, b, l, is, k1, k2, H⟩ := oBrackets s p key cl op ki wh hs hp hk
   exact ⟨a, b, l, is, k1, k2, fun ww => oFind_b s p key a b wh l is ww h2 H⟩
  ·by_cases h3 : key = 34 ∨ key = 39
   ·obtain ⟨a, b, l, is, k1, k2, H⟩ := oQuotes s p key wh hs hp
    exact ⟨a, b, l, is, k1, k2, fun ww => oFind_q s p key a b wh l is ww h3 H⟩
   ·by_cases h4 : key = 112
    ·subst h4
     obtain ⟨a, b, l, is, k1, k2, H⟩ := oParagraph s p wh hs hp
     exact ⟨a, b, l, is, k1, k2, fun ww => oFind_p s p a b wh l is ww H⟩
    ·refine ⟨0, 0, false, false, Nat.le_refl _, Nat.zero_le _, fun ww => oFind_none s p key wh ww ?_⟩
     intro c hc e
     subst e
     simp only [List.mem_cons, List.not_mem_nil, or_false] at hc
     omega
