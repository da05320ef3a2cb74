/- A part. -/
import Derived.Test.YtlendfhehhacpaaGreatP31
import Derived.Test.YtlendfhehhacpaaGreatP32
import Derived.Test.YtlendfhehhacpaaGreatP30
set_option linter.unusedVariables false
set_option linter.unusedSimpArgs false
set_option maxRecDepth 100000
set_option maxHeartbeats 8000000
namespace Go.Proofs.YtlendfhehhacpaaGreat
open Go.RowKit
theorem sGo_way (s : ByteArray) (p n : Nat) (key ch : Int) (b : Bool) (w : World) (hs : s.size ≤ 1000) (hp : p ≤ s.size) (hn : n ≤ 99) (hl : p ≤ Nib.lst s p) (hk : isPlainWay key = true)
  (HA : qH 254 #[.string (s.extract p (Nib.fin s p)), .string ⟨#[40, 41, 91, 93, 123, 125]⟩] (.int .i64 (brkAt s p))) :
  qC 169 #[.int .u8 key, .agg #[.string s, .int .i64 (p), .int .i64 (n), .bool false, .bool false]] w (.tuple #[.agg #[.int .i64 (wayX (Nib.goWay s p key ch (max n 1) (decide (0 < n)) false b)), .int .i64 (wayK (Nib.goWay s p key ch (max n 1) (decide (0 < n)) false b))], .bool (wayZ (Nib.goWay s p key ch (max n 1) (decide (0 < n)) false b))]) := by
 simp only [isPlainWay, Bool.or_eq_true, beq_iff_eq] at hk
 rcases hk with ((((((((((((((((h | h) | h) | h) | h) | h) | h) | h) | h) | h) | h) | h) | h) | h) | h) | h) | h) | h
 all_goals subst h
 ·exact sGo_104 s p n false false w _ (fun ww => sInLine_h s p n false false ww hs hp hn)
 ·exact sGo_108 s p n false false w _ (fun ww => sInLine_l s p n false false ww hs hp hn (by simpa [Nib.mostL] using hl))
 ·exact sGo_48 s p n false false w _ (fun ww => sInLine_0 s p n false false ww hs hp)
 ·exact sGo_94 s p n false false w _ (fun ww => sInLine_hat s p n false false ww hs hp)
 ·exact sGo_36 s p n false false w _ (fun ww => sInLine_eol s p n false false ww hs hp hn)
 ·exact sGo_106 s p n false false w _ (fun ww => sToLine_j s p n false false (decide (0 < n)) ww hs hp hn)
 ·exact sGo_107 s p n false false w _ (fun ww => sToLine_k s p n false false (decide (0 < n)) ww hs hp hn)
 ·exact sGo_71 s p n false false w _ (fun ww => sToNumber_any s p n false false 71 ww hs hp hn (Or.inl rfl))
 ·exact sGo_103 s p n false false w _ (fun ww => sToNumber_any s p n false false 103 ww hs hp hn (Or.inr rfl))
 ·exact sGo_119 s p n false false w _ (fun ww => sToWord_plain s p n false ww hs hp hn)
 ·exact sGo_87 s p n false false w _ (fun ww => sToWord_plain s p n true ww hs hp hn)
 ·exact sGo_98 s p n false false w _ (fun ww => sToAhead_any s p n false false false ww hs hp hn)
 ·exact sGo_66 s p n false false w _ (fun ww => sToAhead_any s p n false false true ww hs hp hn)
 ·exact sGo_101 s p n false false w _ (fun ww => sToWordEnd_any s p n false false false ww hs hp hn)
 ·exact sGo_69 s p n false false w _ (fun ww => sToWordEnd_any s p n false false true ww hs hp hn)
 ·exact sGo_125 s p n false false w _ (fun ww => sToPar_any s p n false false true 1 ww hs hp hn rfl)
 ·exact sGo_123 s p n false false w _ (fun ww => sToPar_any s p n false false false (-1) ww hs hp hn rfl)
 ·exact sGo_37 s p n false false w _ (fun ww => sToPartner_gen s p n false false ww hs hp HA)
theorem sFind_go (s : ByteArray) (p n : Nat) (key ch : Int) (given : Bool) (w : World) (hs : s.size ≤ 1000) (hp : p ≤ s.size) (hn : n ≤ 99) (hk : Nib.isFind key = true) :
  qC 167 #[.agg #[.int .u8 key, .int .u8 ch], .agg #[.string s, .int .i64 (p), .int .i64 (n), .bool false, .bool false]] w (.tuple #[.agg #[.int .i64 (wayX (Nib.goWay s p key ch (max n 1) given false false)), .int .i64 (wayK (Nib.goWay s p key ch (max n 1) given false false))], .bool (wayZ (Nib.goWay s p key ch (max n 1) given false false))]) := by
 simp only [Nib.isFind, Bool.or_eq_true, beq_iff_eq] at hk
 have hk' : isFnd key := by unfold isFnd; omega
 refine sFindGo_gen s p n false false key ch w _ (fun ww => ?_)
 have := sGoFrom_any s p n 1 false false key ch ww hs hp hn qo qo hk'
 rcases hk with ((h | h) | h) | h <;> subst h <;> exact this
theorem sFind_again (s : ByteArray) (p n : Nat) (key ch : Int) (given : Bool) (w : World) (hs : s.size ≤ 1000) (hp : p ≤ s.size) (hn : n ≤ 99) (hk : Nib.isFind key = true) :
  qC 183 #[.agg #[.int .u8 key, .int .u8 ch], .agg #[.string s, .int .i64 (p), .int .i64 (n), .bool false, .bool false]] w (.tuple #[.agg #[.int .i64 (wayX (Nib.goWay s p key ch (max n 1) given false true)), .int .i64 (wayK (Nib.goWay s p key ch (max n 1) given false true))], .bool (wayZ (Nib.goWay s p key ch (max n 1) given false true))]) := by
 simp only [Nib.isFind, Bool.or_eq_true, beq_iff_eq] at hk
 have hk' : isFnd key := by unfold isFnd; omega
 refine sFindAgain_gen s p n false false key ch w _ (fun ww => ?_)
 have h1 := sGoFrom_any s p n 1 false false key ch ww hs hp hn qo qo hk'
 have h2 := sGoFrom_any s p n 2 false false key ch ww hs hp hn qo qo hk'
 rcases hk with ((h | h) | h) | h <;> subst h
 ·exact h1
 ·exact h2
 ·exact h1
 ·exact h2
theorem sFind_again0 (s : ByteArray) (p n : Int) (ch : Int) (w : World) :
  qC 183 #[.agg #[.int .u8 0, .int .u8 ch], .agg #[.string s, .int .i64 (p), .int .i64 (n), .bool false, .bool false]] w (.tuple #[.agg #[.int .i64 (wayX (((0 : Int), (0 : Int), true))), .int .i64 (wayK (((0 : Int), (0 : Int), true)))], .bool (wayZ (((0 : Int), (0 : Int), true)))]) :=
 sFindAgain_gen s p n false false 0 ch w _ (fun ww => sGoFrom_none s p n _ ch false false ww)
theorem sTurned_any (key ch : Int) (w : World) (hk : key = 0 ∨ Nib.isFind key = true) :
  qC 184 #[.agg #[.int .u8 key, .int .u8 ch]] w (.agg #[.int .u8 (Nib.flp key), .int .u8 ch]) := by
 simp only [Nib.isFind, Bool.or_eq_true, beq_iff_eq] at hk
 rcases hk with h | ((h | h) | h) | h <;> subst h
 ·exact sTurned_0 ch w
 ·exact sTurned_102 ch w
 ·exact sTurned_116 ch w
 ·exact sTurned_70 ch w
 ·exact sTurned_84 ch w
theorem sGo_wayV (s : ByteArray) (p n : Nat) (key ch : Int) (b : Bool) (w : World) (hs : s.size ≤ 1000) (hp : p ≤ s.size) (hn : n ≤ 99) (hk : isPlainWay key = true)
  (HA : qH 254 #[.string (s.extract p (Nib.fin s p)), .string ⟨#[40, 41, 91, 93, 123, 125]⟩] (.int .i64 (brkAt s p))) :
  qC 169 #[.int .u8 key, .agg #[.string s, .int .i64 (p), .int .i64 (n), .bool true, .bool false]] w (.tuple #[.agg #[.int .i64 (wayX (Nib.goWay s p key ch (max n 1) (decide (0 < n)) true b)), .int .i64 (wayK (Nib.goWay s p key ch (max n 1) (decide (0 < n)) true b))], .bool (wayZ (Nib.goWay s p key ch (max n 1) (decide (0 < n)) true b))]) := by
 simp only [isPlainWay, Bool.or_eq_true, beq_iff_eq] at hk
 rcases hk with ((((((((((((((((h | h) | h) | h) | h) | h) | h) | h) | h) | h) | h) | h) | h) | h) | h) | h) | h) | h
 all_goals subst h
 ·exact sGo_104 s p n true false w _ (fun ww => sInLine_h s p n true false ww hs hp hn)
 ·exact sGo_108 s p n true false w _ (fun ww => sInLine_l s p n true false ww hs hp hn (by simp only [Nib.mostL, if_true]; exact Nib.fin_ge s p))
 ·exact sGo_48 s p n true false w _ (fun ww => sInLine_0 s p n true false ww hs hp)
 ·exact sGo_94 s p n true false w _ (fun ww => sInLine_hat s p n true false ww hs hp)
 ·exact sGo_36 s p n true false w _ (fun ww => sInLine_eol s p n true false ww hs hp hn)
 ·exact sGo_106 s p n true false w _ (fun ww => sToLine_j s p n true false (decide (0 < n)) ww hs hp hn)
 ·exact sGo_107 s p n true false w _ (fun ww => sToLine_k s p n true false (decide (0 < n)) ww hs hp hn)
 ·exact sGo_71 s p n true false w _ (fun ww => sToNumber_any s p n true false 71 ww hs hp hn (Or.inl rfl))
 ·exact sGo_103 s p n true false w _ (fun ww => sToNumber_any s p n true false 103 ww hs hp hn (Or.inr rfl))
 ·exact sGo_119 s p n true false w _ (fun ww => sToWord_verb s p n false ww hs hp hn)
 ·exact sGo_87 s p n true false w _ (fun ww => sToWord_verb s p n true ww hs hp hn)
 ·exact sGo_98 s p n true false w _ (fun ww => sToAhead_any s p n true false false ww hs hp hn)
 ·exact sGo_66 s p n true false w _ (fun ww => sToAhead_any s p n true false true ww hs hp hn)
 ·exact sGo_101 s p n true false w _ (fun ww => sToWordEnd_any s p n true false false ww hs hp hn)
 ·exact sGo_69 s p n true false w _ (fun ww => sToWordEnd_any s p n true false true ww hs hp hn)
 ·exact sGo_125 s p n true false w _ (fun ww => sToPar_any s p n true false true 1 ww hs hp hn rfl)
 ·exact sGo_123 s p n true false w _ (fun ww => sToPar_any s p n true false false (-1) ww hs hp hn rfl)
 ·exact sGo_37 s p n true false w _ (fun ww => sToPartner_gen s p n true false ww hs hp HA)
theorem sFind_goV (s : ByteArray) (p n : Nat) (key ch : Int) (given : Bool) (w : World) (hs : s.size ≤ 1000) (hp : p ≤ s.size) (hn : n ≤ 99) (hk : Nib.isFind key = true) :
  qC 167 #[.agg #[.int .u8 key, .int .u8 ch], .agg #[.string s, .int .i64 (p), .int .i64 (n), .bool true, .bool false]] w (.tuple #[.agg #[.int .i64 (wayX (Nib.goWay s p key ch (max n 1) given true false)), .int .i64 (wayK (Nib.goWay s p key ch (max n 1) given true false))], .bool (wayZ (Nib.goWay s p key ch (max n 1) given true false))]) := by
 simp only [Nib.isFind, Bool.or_eq_true, beq_iff_eq] at hk
 have hk' : isFnd key := by unfold isFnd; omega
 refine sFindGo_gen s p n true false key ch w _ (fun ww => ?_)
 have := sGoFrom_any s p n 1 true false key ch ww hs hp hn qo qo hk'
 rcases hk with ((h | h) | h) | h <;> subst h <;> exact this
theorem sFind_againV (s : ByteArray) (p n : Nat) (key ch : Int) (given : Bool) (w : World) (hs : s.size ≤ 1000) (hp : p ≤ s.size) (hn : n ≤ 99) (hk : Nib.isFind key = true) :
  qC 183 #[.agg #[.int .u8 key, .int .u8 ch], .agg #[.string s, .int .i64 (p), .int .i64 (n), .bool true, .bool false]] w (.tuple #[.agg #[.int .i64 (wayX (Nib.goWay s p key ch (max n 1) given true true)), .int .i64 (wayK (Nib.goWay s p key ch (max n 1) given true true))], .bool (wayZ (Nib.goWay s p key ch (max n 1) given true true))]) := by
 simp only [Nib.isFind, Bool.or_eq_true, beq_iff_eq] at hk
 have hk' : isFnd key := by unfold isFnd; omega
 refine sFindAgain_gen s p n true false key ch w _ (fun ww => ?_)
 have h1 := sGoFrom_any s p n 1 true false key ch ww hs hp hn qo qo hk'
 have h2 := sGoFrom_any s p n 2 true false key ch ww hs hp hn qo qo hk'
 rcases hk with ((h | h) | h) | h <;> subst h
 ·exact h1
 ·exact h2
 ·exact h1
 ·exact h2
theorem sFind_again0V (s : ByteArray) (p n : Int) (ch : Int) (w : World) :
  qC 183 #[.agg #[.int .u8 0, .int .u8 ch], .agg #[.string s, .int .i64 (p), .int .i64 (n), .bool true, .bool false]] w (.tuple #[.agg #[.int .i64 (wayX (((0 : Int), (0 : Int), true))), .int .i64 (wayK (((0 : Int), (0 : Int), true)))], .bool (wayZ (((0 : Int), (0 : Int), true)))]) :=
 sFindAgain_gen s p n true false 0 ch w _ (fun ww => sGoFrom_none s p n _ ch true false ww)
theorem vDo_delete (s : ByteArray) (i j : Nat) (p : Int) (w : World) (hs : s.size ≤ 1000) (h : i ≤ j) (hj : j ≤ s.size) :
  qC 174 #[.int .u8 100, .string s, .agg #[.int .i64 i, .int .i64 j, .bool false], .int .i64 p] w (.tuple #[.string (s.extract 0 i ++ s.extract j s.size), .int .i64 i]) := by
 have HW : qH 218 #[.string s, .agg #[.int .i64 i, .int .i64 j, .bool false]] (.tuple #[.string (s.extract 0 i ++ s.extract j s.size), .int .i64 i]) := fun ww => vWithout_piece s i j ww hs h hj
 generalize s.extract 0 i ++ s.extract j s.size = X at *
 go_enter Tryz.func174, Tryz.ntmps174
 go_wp2_with fail
 refine (HW.out _).mono ?_
 rintro e w1 ⟨rfl, h1⟩
 obtain ⟨hc1, hf1, hz1⟩ := qb h1
 try simp at hz1
 go_wp2
 refine bodyPost_ret (v := .tuple #[.string X, .int .i64 i]) (by simp [results, Tryz.results174, go_sem]) rfl ⟨rfl, ?_⟩
 repeat (with_reducible first | exact Below.refl _ _ | refine b_s ?_ _ | refine b_a ?_ _ | refine Below.drew ?_ | refine below_drewN ?_ _ | refine b_t ?_ h1)
theorem RgAt.new {w : World} {m k : Nat} (h : w.heap[m]? = some (.map #[] k)) : RgAt w m (fun _ => .agg #[.string ⟨#[]⟩, .bool false]) :=
 ⟨#[], k, h, by simp [RgOk], fun d => by simp [rgFind, rgVal]⟩
theorem RgAt.look {w : World} {m : Nat} {f : Int → Value} (h : RgAt w m f) (c : Int) : (Instr.lookup 90 (.map (some m)) (.int .u8 c) false).run Tryz.prog w = .ok (f c) w := by
 obtain ⟨es, k, h1, h2, h3⟩ := h.out
 rw [rg_look m k c es w h1 h2, h3]
theorem bRegister_at (b r d m : Nat) (tv : Value) (dg : ByteArray) (p : Pg) (c : Int) (f : Int → Value) (t : ByteArray) (l : Bool) (w : World) (hb : BdAt w b r d tv dg) (h : RdAt w r d p) (hm : p.regs = .map (some m)) (hg : RgAt w m f) (hf : f c = .agg #[.string t, .bool l]) :
  qC 32 #[.pointer (some ⟨b, 0, none⟩), .int .u8 c] w (.tuple #[.string t, .bool l]) := by
 have c4 := h.dk.c4
 rw [hm] at c4
 have b0 := hb.c0
 have r0 := h.bg.c0
 have bl := hb.lt
 have rl := h.bg.lt
 have dl := h.dk.lt
 have l1 : d < w.heap.size + 1 := by omega
 have l2 : r < w.heap.size + 1 := by omega
 have l3 : b < w.heap.size + 1 := by omega
 clear hb h
 have hlk := hg.look c
 rw [hf] at hlk
 clear hg hf
 go_enter Tryz.func32, Tryz.ntmps32
 go_wp2_with fail
 go_region_held3 (fun ww => ww.cell? ⟨w.heap.size, 0, none⟩ = some (.string t) ∧ ww.cell? ⟨w.heap.size, 1, none⟩ = some (.bool l)) (exact qK) (fail)
 go_wp2
 go_ret2
 refine ⟨rfl, ?_⟩
 repeat exact qB
theorem nRegister_at (q b r d m : Nat) (tv : Value) (dg : ByteArray) (p : Pg) (c : Int) (f : Int → Value) (t : ByteArray) (l : Bool) (w : World) (hq : w.cell? ⟨q, 0, none⟩ = some (.pointer (some ⟨b, 0, none⟩))) (hb : BdAt w b r d tv dg) (h : RdAt w r d p) (hm : p.regs = .map (some m)) (hg : RgAt w m f) (hf : f c = .agg #[.string t, .bool l]) :
  qC 20 #[.pointer (some ⟨q, 0, none⟩), .int .u8 c] w (.tuple #[.string t, .bool l]) := by
 have HS : Hid (∀ ww, ww = w → qC 32 #[.pointer (some ⟨b, 0, none⟩), .int .u8 c] ww (.tuple #[.string t, .bool l])) := fun ww h1 => by subst h1; exact bRegister_at b r d m tv dg p c f t l ww hb h hm hg hf
 clear hb h hm hg hf
 go_enter Tryz.func20, Tryz.ntmps20
 go_wp2_with fail
 refine Calls.mono (HS.out _ rfl) ?_
 rintro e w1 ⟨rfl, h1⟩
 go_wp2
 go_ret2
 exact ⟨rfl, h1⟩
def AnyOk : Prop := ∀ (s : ByteArray) (p : Nat), s.size ≤ 1000 → p ≤ s.size →
 qH 254 #[.string (s.extract p (Nib.fin s p)), .string ⟨#[40, 41, 91, 93, 123, 125]⟩] (.int .i64 (brkAt s p))
end Go.Proofs.YtlendfhehhacpaaGreat
