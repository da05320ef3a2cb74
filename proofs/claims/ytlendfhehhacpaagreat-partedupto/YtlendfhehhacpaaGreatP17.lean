/- A part. -/
import Derived.Test.YtlendfhehhacpaaGreatP16
import Derived.Test.YtlendfhehhacpaaGreatP14
import Derived.Test.YtlendfhehhacpaaGreatP15
set_option linter.unusedVariables false
set_option linter.unusedSimpArgs false
set_option maxRecDepth 100000
set_option maxHeartbeats 8000000
namespace Go.Proofs.YtlendfhehhacpaaGreat
open Go.RowKit
theorem sInkAhead_any (s : ByteArray) (q : Nat) (w : World) (hs : s.size ≤ 1000) (hq : q < s.size) :
  qC 283 #[.string s, .int .i64 q] w (.int .i64 (Nib.dn (Nib.bgap s) q)) := by
 generalize hX : Nib.dn (Nib.bgap s) q = X
 have HX : Hid (Nib.dn (Nib.bgap s) q = X) := hX
 clear hX
 have hq' : q ≤ s.size := by omega
 have hm := Nib.lin_lt hq'
 have HL : qH 195 #[.string s, .int .i64 q] (.agg #[.int .i64 (Nib.att s (Nib.lin s q)), .int .i64 (Nib.fin s (Nib.att s (Nib.lin s q)))]) := by
  intro ww
  have := tLine_any s q q ww hs rfl hq'
  rw [Nib.fin_eq hq', Nib.beg_eq hq'] at this
  exact this
 go_enter Tryz.func283, Tryz.ntmps283
 go_wp2_with fail
 go_step3
 go_wp2_with fail
 refine (HL.out _).mono ?_
 rintro e w1 ⟨rfl, h1⟩
 obtain ⟨hc1, hf1, hz1⟩ := qb h1
 try simp at hz1
 go_wp2
 go_step3
 go_wp2
 go_loopg [1, 6] (Nib.lin s q + 1) (fun g pl mo wr => (∃ j pv : Nat, j < Nib.lns s ∧ g = j + 1 ∧ pl = .int .i64 pv ∧ pv < s.size ∧ Nib.att s j ≤ pv ∧ pv ≤ Nib.fin s (Nib.att s j) ∧ Hid (Nib.dn (Nib.bgap s) pv = X) ∧ mo = .bool true ∧ Two wr w1.heap.size (Nib.att s j) (Nib.fin s (Nib.att s j)) ∧ Below w.heap.size w wr) ∨ (pl = .int .i64 (-1) ∧ Hid (X = 0) ∧ mo = .bool false ∧ Below w.heap.size w wr))
 case atStart =>
  refine Or.inl ⟨Nib.lin s q, q, hm, rfl, rfl, hq, ?_, ?_, HX, rfl, Two.new _ _ _ _, ?_⟩
  ·rw [← Nib.beg_eq hq']; exact Nib.beg_le s q
  ·rw [← Nib.fin_eq hq']; exact Nib.fin_ge s q
  ·repeat exact qB
 case round =>
  rcases hrel with ⟨j, pv, hj, hg, rfl, hps, hpa, hpf, hu, rfl, T, hB⟩ | ⟨rfl, HZ, rfl, hB⟩
  ·have t0 := (T).c0
   have t1 := (T).c1
   have tz := (T).fz
   have tl := (T).lt
   have HE1 : qH 185 #[.agg #[.int .i64 (Nib.att s j), .int .i64 (Nib.fin s (Nib.att s j))]] (.bool (Nib.emp s (Nib.att s j))) := by
    intro ww; rw [Nib.emp_att hj]; exact tIsEmpty_any _ _ ww
   cases hem : Nib.emp s (Nib.att s j) with
   | true =>
    rw [hem] at HE1
    have HZ : Hid (X = pv) := by
     have h9 := hem
     rw [Nib.emp_att hj] at h9
     simp only [beq_iff_eq] at h9
     have e : pv = Nib.att s j := by omega
     rw [Hid, ← hu.out, Nib.bgap_emp (by rw [e]; exact hem)]
    clear hem hu
    go_wp2_with fail
    refine (HE1.out _).mono ?_
    rintro r2 w2 ⟨rfl, h2⟩
    obtain ⟨hc2, hf2, hz2⟩ := qb h2
    (try simp at hz2)
    have T2 : Two w2 (w1.heap.size) (Nib.att s j) (Nib.fin s (Nib.att s j)) := qTw
    have ⟨T2_0, T2_1, T2_z, T2_l⟩ := T2
    go_wp2
    (try rw [Exit.noGoto_ret])
    all_goals
     first
      | (exact qV (.int .i64 pv) (by simp [results, Tryz.results283, go_sem]) (ret_int (by rw [HZ.out])))
   | false =>
    rw [hem] at HE1
    have hlin := Nib.emp_att_ne hj hem
    have HEM : Hid (Nib.emp s (Nib.att s j) = false) := hem
    clear hem
    go_wp2_with fail
    refine (HE1.out _).mono ?_
    rintro r2 w2 ⟨rfl, h2⟩
    obtain ⟨hc2, hf2, hz2⟩ := qb h2
    (try simp at hz2)
    have T2 : Two w2 (w1.heap.size) (Nib.att s j) (Nib.fin s (Nib.att s j)) := qTw
    have ⟨T2_0, T2_1, T2_z, T2_l⟩ := T2
    clear hc2 hf2
    go_wp2
    go_loopg [1] (pv + 1 - Nib.att s j) (fun g2 pl wx => ∃ k : Nat, Nib.att s j ≤ k ∧ k ≤ pv + 1 ∧ g2 = k - Nib.att s j ∧ pl = .int .i64 ((k : Int) - 1) ∧ Hid (Nib.dn (Nib.bgap s) (k - 1) = X) ∧ wx = w2)
    case atStart => exact ⟨pv + 1, by omega, Nat.le_refl _, rfl, by go_num, hu, rfl⟩
    case round =>
     clear hu
     obtain ⟨k, hk1, hk2, hk3, rfl, hu, rfl⟩ := hrel
     by_cases hlt : Nib.att s j < k
     ·obtain ⟨i, rfl⟩ : ∃ i, k = i + 1 := ⟨k - 1, by omega⟩
      have e1 : ((i + 1 : Nat) : Int) - 1 = (i : Int) := by omega
      rw [e1]
      have his : i < s.size := by omega
      have hei := Nib.emp_in hj (show Nib.att s j ≤ i by omega) (show i ≤ Nib.fin s (Nib.att s j) by omega) hlin
      have HI : Hid (∀ ww, Calls Tryz.prog 247 #[.string s, .int .i64 i] ww fun e w' => e = .returned (.bool (!Nib.spc (Nib.bt s i))) ∧ w' = ww) := by
       intro ww
       have := sHasInk_any s i i ww hs rfl qo
       rw [decide_eq_true his, Bool.true_and] at this
       exact this
      have hle' : ((Nib.att s j : Nat) : Int) ≤ (i : Int) := by omega
      cases hsp : Nib.spc (Nib.bt s i) with
      | false =>
       have HS : Hid (X = i) := by
        rw [Hid, ← hu.out, Nat.add_sub_cancel, Nib.bgap_ink hsp]
       rw [hsp] at HI
       clear hsp hu e1 hei
       go_wp2_with fail
       refine (HI.out _).mono ?_
       rintro e w' ⟨rfl, rfl⟩
       go_wp2
       (try rw [Exit.noGoto_ret])
       all_goals
        first
         | (exact qV (.int .i64 i) (by simp [results, Tryz.results283, go_sem]) (ret_int (by rw [HS.out])))
      | true =>
       have HS : Hid (Nib.dn (Nib.bgap s) (i - 1) = X) := by
        rw [Hid, ← hu.out, Nat.add_sub_cancel, Nib.bgap_go hsp hei]
       rw [hsp] at HI
       clear hsp hu e1 hei
       go_wp2_with fail
       refine (HI.out _).mono ?_
       rintro e w' ⟨rfl, rfl⟩
       go_wp2
       go_roundg (i - Nib.att s j)
       case measure => omega
       case rel => exact ⟨i, by omega, by omega, rfl, by go_num, HS, rfl⟩
     ·have ek : k = Nib.att s j := by omega
      subst ek
      have hge : ¬ ((Nib.att s j : Nat) : Int) ≤ ((Nib.att s j : Nat) : Int) - 1 := by omega
      by_cases h0 : 0 < j
      ·have hbes : Nib.fin s (Nib.att s (j - 1)) + 1 = Nib.att s j := by
        obtain ⟨i, rfl⟩ : ∃ i, j = i + 1 := ⟨j - 1, by omega⟩
        rfl
       have HBs : qH 223 #[.string s, .agg #[.int .i64 (Nib.att s j), .int .i64 (Nib.fin s (Nib.att s j))], .int .i64 (-1)] (.tuple #[.agg #[.int .i64 (Nib.att s (j - 1)), .int .i64 (Nib.fin s (Nib.att s (j - 1)))], .bool true]) := fun ww => tBeside_up s _ _ _ j ww hs rfl hj rfl h0
       have HQ : Hid (Nib.fin s (Nib.att s (j - 1)) + 1 = Nib.att s j) := hbes
       clear hbes
       go_wp2_with fail
       refine (HBs.out _).mono ?_
       rintro r3 w3 ⟨rfl, h3⟩
       obtain ⟨hc3, hf3, hz3⟩ := qb h3
       (try simp at hz3)
       have T23 : Two w3 (w1.heap.size) (Nib.att s j) (Nib.fin s (Nib.att s j)) := qTw
       have ⟨T23_0, T23_1, T23_z, T23_l⟩ := T23
       clear hc3 hf3
       go_wp2
       have hq9 := HQ.out
       go_roundg j
       case measure => omega
       case rel =>
        refine Or.inl ⟨j - 1, Nib.att s j - 1, by omega, by omega, by congr 1; omega, by omega, ?_, by omega, hu, rfl, Two.set1 (Two.set0 T23 _) _, ?_⟩
        ·have := Nib.fin_ge s (Nib.att s (j - 1)); omega
        ·repeat exact qB
      ·have e0 : j = 0 := by omega
       have ea : Nib.att s j = 0 := by rw [e0]; rfl
       have HZ : Hid (X = 0) := by rw [Hid, ← hu.out, ea]; rfl
       have HBs : qH 223 #[.string s, .agg #[.int .i64 (Nib.att s j), .int .i64 (Nib.fin s (Nib.att s j))], .int .i64 (-1)] (.tuple #[.agg #[.int .i64 (0), .int .i64 (0)], .bool false]) := fun ww => tBeside_none s _ _ _ ww hs (Or.inr rfl) (fun h => by omega) (fun _ => by omega)
       have HA : Hid (Nib.att s j = 0) := ea
       clear ea e0
       go_wp2_with fail
       refine (HBs.out _).mono ?_
       rintro r3 w3 ⟨rfl, h3⟩
       obtain ⟨hc3, hf3, hz3⟩ := qb h3
       (try simp at hz3)
       have T23 : Two w3 (w1.heap.size) (Nib.att s j) (Nib.fin s (Nib.att s j)) := qTw
       have ⟨T23_0, T23_1, T23_z, T23_l⟩ := T23
       clear hc3 hf3
       go_wp2
       have ha9 := HA.out
       go_roundg 0
       case measure => omega
       case rel =>
        refine Or.inr ⟨by congr 1; omega, HZ, rfl, ?_⟩
        repeat exact qB
  ·go_wp2
   (try rw [Exit.noGoto_ret])
   all_goals
    first
     | (exact qV (.int .i64 0) (by simp [results, Tryz.results283, go_sem]) (ret_int (by rw [HZ.out]; rfl)))
def keyIs : Value → Int → Bool
 | .int .u8 d, c => d == c
 | _, _ => false
def rgFind : List MapEntry → Int → Nat → Option (Nat × Value)
 | [], _, _ => none
 | e :: es, c, i => if keyIs e.key c = true then some (i, e.val) else rgFind es c (i + 1)
def RgOk (es : List MapEntry) : Prop := ∀ e ∈ es, ∃ (c : Int) (t : ByteArray) (l : Bool), e.key = .int .u8 c ∧ e.val = .agg #[.string t, .bool l]
theorem rgNow (c : Int) : ∀ (es : List MapEntry) (i : Nat), RgOk es → Instr.findNow (.int .u8) (.int .u8 c) es i = some (rgFind es c i)
 | [], _, _ => rfl
 | e :: es, i, h => by
  obtain ⟨d, t, l, hk, hv⟩ := h e qi
  have ih := rgNow c es (i + 1) (fun x hx => h x (by simp [hx]))
  unfold Instr.findNow rgFind
  rw [hk]
  by_cases hcd : c = d
  ·subst hcd; simp [Instr.sameNow, keyIs]
  ·have h1 : (c == d) = false := by simpa using hcd
   have h2 : (d == c) = false := by simpa using Ne.symm hcd
   simp [Instr.sameNow, h1, ih, keyIs, h2]
theorem rg_find (c : Int) (es : List MapEntry) (h : RgOk es) (w : World) : (Instr.findKey 5 (.int .u8 c) es).run Tryz.prog w = .ok (rgFind es c 0) w := by
 unfold Instr.findKey
 simp [run_underlying Tryz.underlying5, rgNow c es 0 h]
def rgVal : Option (Nat × Value) → Value
 | some (_, v) => v
 | none => .agg #[.string ⟨#[]⟩, .bool false]
theorem rg_look (m k : Nat) (c : Int) (es : Array MapEntry) (w : World) (hh : w.heap[m]? = some (.map es k)) (h : RgOk es.toList) : (Instr.lookup 90 (.map (some m)) (.int .u8 c) false).run Tryz.prog w = .ok (rgVal (rgFind es.toList c 0)) w := by
 have hck : ∀ e w, (Instr.checkKey e 10000 5 (.int .u8 c)).run Tryz.prog w = .ok () w := fun e w => check_u8 e 9999 c w
 have hfk := fun w => rg_find c es.toList h w
 unfold Instr.lookup
 cases hf : rgFind es.toList c 0 with
 | none => rw [hf] at hfk; simp [run_underlying Tryz.underlying90, MapKept.run_getObj_map hh, hck, hfk, zero_register, Result.andThen, rgVal]
 | some x => rw [hf] at hfk; simp [run_underlying Tryz.underlying90, MapKept.run_getObj_map hh, hck, hfk, zero_register, Result.andThen, rgVal]
theorem rgFind_some {c : Int} : ∀ {es : List MapEntry} {i j : Nat} {v : Value}, RgOk es → rgFind es c i = some (j, v) → i ≤ j ∧ ∃ e, es[j - i]? = some e ∧ e.key = .int .u8 c
 | [], _, _, _, _, h => by simp [rgFind] at h
 | e :: es, i, j, v, ho, h => by
  unfold rgFind at h
  obtain ⟨d, t, l, hk, hv⟩ := ho e qi
  split at h
  ·rename_i hc
   injection h with h; injection h with h1 h2
   subst h1
   rw [hk] at hc
   have : d = c := by simpa [keyIs] using hc
   exact ⟨Nat.le_refl _, e, by simp, by rw [hk, this]⟩
  ·obtain ⟨h1, x, h2, h3⟩ := rgFind_some (fun x hx => ho x (by simp [hx])) h
   refine ⟨by omega, x, ?_, h3⟩
   rw [show j - i = (j - (i + 1)) + 1 by omega, List.getElem?_cons_succ]
   exact h2
theorem rgFind_push {c d : Int} {v : Value} {b : Nat} : ∀ {es : List MapEntry} {i : Nat}, rgFind es c i = none → rgVal (rgFind (es ++ [{ key := .int .u8 c, val := v, born := b }]) d i) = if d = c then v else rgVal (rgFind es d i)
 | [], i, _ => by
  by_cases h : d = c
  ·subst h; simp [rgFind, keyIs, rgVal]
  ·have : (c == d) = false := by simpa using Ne.symm h
   simp [rgFind, keyIs, rgVal, h, this]
 | e :: es, i, hn => by
  unfold rgFind at hn
  split at hn
  ·simp at hn
  ·rename_i hc
   have ih := rgFind_push (v := v) (b := b) (d := d) hn
   simp only [List.cons_append]
   unfold rgFind
   by_cases hd : keyIs e.key d = true
   ·rw [if_pos hd, if_pos hd]
    have : d ≠ c := by intro h; subst h; exact hc hd
    rw [if_neg this]
   ·rw [if_neg hd, if_neg hd]; exact ih
theorem rgFind_set {c d : Int} {v : Value} : ∀ {es : List MapEntry} {i j : Nat} {x : Value}, rgFind es c i = some (j, x) → rgVal (rgFind (es.modify (j - i) fun e => { e with key := .int .u8 c, val := v }) d i) = if d = c then v else rgVal (rgFind es d i)
 | [], _, _, _, h => by simp [rgFind] at h
 | e :: es, i, j, x, h => by
  unfold rgFind at h
  split at h
  ·rename_i hc
   injection h with h; injection h with h1 h2
   subst h1
   rw [Nat.sub_self]
   simp only [List.modify_zero_cons]
   unfold rgFind
   by_cases hd : d = c
   ·subst hd; simp [keyIs, rgVal]
   ·have h1 : (c == d) = false := by simpa using Ne.symm hd
    have h0 : keyIs (.int .u8 c) d = false := h1
    have : keyIs e.key d = false := by
     cases hk : e.key with
     | int k n => cases k <;> simp_all [keyIs]
     | _ => simp_all [keyIs]
    simp [h0, this, hd]
  ·rename_i hc
   have hj : i + 1 ≤ j := by
    clear hc
    have : ∀ {es : List MapEntry} {i j : Nat} {x : Value}, rgFind es c i = some (j, x) → i ≤ j := by
     intro es
     induction es with
     | nil => intro i j x h; simp [rgFind] at h
     | cons e es ih =>
      intro i j x h
      unfold rgFind at h
      split at h
      ·injection h with h; injection h with h1 h2; omega
      ·have := ih h; omega
    exact this h
   have ih := rgFind_set (v := v) (d := d) h
   rw [show j - i = (j - (i + 1)) + 1 by omega, List.modify_succ_cons]
   unfold rgFind
   by_cases hd : keyIs e.key d = true
   ·rw [if_pos hd, if_pos hd]
    have : d ≠ c := by intro h; subst h; exact hc hd
    rw [if_neg this]
   ·rw [if_neg hd, if_neg hd]; exact ih
theorem rgOk_modify {c : Int} {t : ByteArray} {l : Bool} : ∀ (es : List MapEntry) (j : Nat), RgOk es → RgOk (es.modify j fun e => { e with key := .int .u8 c, val := .agg #[.string t, .bool l] })
 | [], j, h => by simpa using h
 | e :: es, 0, h => by
  intro x hx
  rw [List.modify_zero_cons] at hx
  rcases List.mem_cons.1 hx with rfl | hx
  ·exact ⟨c, t, l, rfl, rfl⟩
  ·exact h x (by simp [hx])
 | e :: es, j + 1, h => by
  intro x hx
  rw [List.modify_succ_cons] at hx
  rcases List.mem_cons.1 hx with rfl | hx
  ·exact h _ qi
  ·exact rgOk_modify es j (fun y hy => h y (by simp [hy])) x hx
theorem rg_update (m k : Nat) (c : Int) (t : ByteArray) (l : Bool) (es : Array MapEntry) (w : World) (hh : w.heap[m]? = some (.map es k)) (h : RgOk es.toList) :
  ∃ (es' : Array MapEntry) (k' : Nat), (Instr.mapUpdate 90 (.map (some m)) (.int .u8 c) (.agg #[.string t, .bool l])).run Tryz.prog w = .ok () { w with heap := w.heap.setIfInBounds m (.map es' k') } ∧ RgOk es'.toList ∧
   ∀ d, rgVal (rgFind es'.toList d 0) = if d = c then .agg #[.string t, .bool l] else rgVal (rgFind es.toList d 0) := by
 have hck : ∀ e w, (Instr.checkKey e 10000 5 (.int .u8 c)).run Tryz.prog w = .ok () w := fun e w => check_u8 e 9999 c w
 have hfk := fun w => rg_find c es.toList h w
 have hso := fun o => MapKept.run_setObj_map (P := Tryz.prog) o hh
 cases hf : rgFind es.toList c 0 with
 | none =>
  rw [hf] at hfk
  refine ⟨es.push { key := .int .u8 c, val := .agg #[.string t, .bool l], born := k }, k + 1, ?_, ?_, ?_⟩
  ·unfold Instr.mapUpdate
   simp [run_underlying Tryz.underlying90, MapKept.run_getObj_map hh, hck, hfk, hso, Result.andThen]
  ·intro e he
   simp only [Array.toList_push, List.mem_append, List.mem_singleton] at he
   rcases he with he | rfl
   ·exact h e he
   ·exact ⟨c, t, l, rfl, rfl⟩
  ·intro d
   rw [Array.toList_push]
   exact rgFind_push hf
 | some y =>
  obtain ⟨j, x⟩ := y
  rw [hf] at hfk
  obtain ⟨_, e0, he0, hk0⟩ := rgFind_some h hf
  rw [Nat.sub_zero] at he0
  have he1 : es[j]? = some e0 := by simpa using he0
  refine ⟨es.modify j fun e => { e with key := .int .u8 c, val := .agg #[.string t, .bool l] }, k, ?_, ?_, ?_⟩
  ·unfold Instr.mapUpdate
   simp [run_underlying Tryz.underlying90, MapKept.run_getObj_map hh, hck, hfk, hso, Result.andThen, he1, hk0, Instr.keyThatStays, Instr.sameBits]
  ·intro e he
   rw [Array.toList_modify] at he
   exact rgOk_modify es.toList j h e he
  ·intro d
   rw [Array.toList_modify]
   have := rgFind_set (v := .agg #[.string t, .bool l]) (d := d) hf
   rw [Nat.sub_zero] at this
   exact this
theorem bTake_normal_moreB (b r d : Nat) (tv : Value) (dg : ByteArray) (p : Pg) (key : Int) (A B : World → Prop) (T : List Nat) (w : World) (hb : BdAt w b r d tv dg) (hA : A w) (fA : Firm A) (fB : Firm B) (hr : HasR A r d p) (hm : p.mode = 0) (hk : ¬ key = 27)
  (HC : GivesB 137 #[.agg #[.pointer (some ⟨r, 0, none⟩)], .int .u8 key] A B 0 T) :
  Calls Tryz.prog 46 #[.pointer (some ⟨b, 0, none⟩), .int .u8 key] w fun e w' => e = .returned (.int .i64 0) ∧ B w' ∧ Upd T w w' := by
 have HO : Hid (∀ ww, BdAt ww b r d tv dg → RdAt ww r d p → qC 64 #[.pointer (some ⟨b, 0, none⟩)] ww (.iface 77 (.agg #[.pointer (some ⟨r, 0, none⟩)]))) := fun ww h1 h2 => mOn_normal b r d tv dg p ww h1 h2 hm
 have H := hr w hA
 have hk' : (key == 27) = false := by simp [hk]
 have hmt := meth_normal_take ⟨r, 0, none⟩
 clear hm hk
 go_enter Tryz.func46, Tryz.ntmps46
 go_wp2_with fail
 refine Calls.mono (HO.out _ hb H) ?_
 rintro e w1 ⟨rfl, h1⟩
 go_wp2_with fail
 refine Calls.mono (HC.out _ (fA _ _ hA qB)) ?_
 rintro e w2 ⟨rfl, h2, u2⟩
 go_wp2
 go_ret
 refine ⟨rfl, ?_, ?_⟩
 ·exact (fB _ _ h2 qB)
 ·repeat exact qU
theorem qt47 {P : Prop} (h : P := by
  clear hm hk hO0 hO3
  go_enter Tryz.func46, Tryz.ntmps46
  go_wp2_with fail
  refine Calls.mono (HO.out _ hb H) ?_
  rintro e w1 ⟨rfl, h1⟩
  go_wp2_with fail
  refine Calls.mono (HC.out _ (fA _ _ hA qB)) ?_
  rintro e w2 ⟨rfl, h2, u2⟩
  have B2 := (hb.below h1).upd u2 hbT
  have e0 := B2.c0
  obtain ⟨p2, R2⟩ := hBr w2 h2
  have g0 := R2.bg.c0
  have gl := R2.bg.lt
  go_wp2_with fail
  refine Calls.mono (HF.out _ (fB _ _ h2 qB)) ?_
  rintro e w3 ⟨rfl, h3, u3⟩
  go_wp2
  go_ret
  refine ⟨rfl, ?_, ?_⟩
  ·exact (fC _ _ h3 qB)
  ·refine Upd.trans (S := r :: T) ?_ (Upd.mono u3 qi)
   refine Upd.trans (S := r :: T) ?_ (Upd.mono u2 (by intro k hk; simp [hk]))
   exact Upd.of_below h1
 ) : P := h
theorem bTake_normal_doneB (b r d : Nat) (tv : Value) (dg : ByteArray) (p : Pg) (key O : Int) (C : World → Prop) (A B : World → Prop) (T : List Nat) (w : World) (hb : BdAt w b r d tv dg) (hA : A w) (fA : Firm A) (fB : Firm B) (hr : HasR A r d p) (hm : p.mode = 0) (hk : ¬ key = 27) (hbT : b ∉ T) (hO0 : ¬ O = 0) (hO3 : ¬ O = 3) (fC : Firm C) (hBr : ∀ ww, B ww → ∃ p2, RdAt ww r d p2)
  (HF : Hid (∀ ww, B ww → Calls Tryz.prog 65 #[.pointer (some ⟨r, 1, none⟩)] ww fun e w' => e = .returned (.tuple #[]) ∧ C w' ∧ Upd [r] ww w'))
  (HC : GivesB 137 #[.agg #[.pointer (some ⟨r, 0, none⟩)], .int .u8 key] A B O T) :
  Calls Tryz.prog 46 #[.pointer (some ⟨b, 0, none⟩), .int .u8 key] w fun e w' => e = .returned (.int .i64 O) ∧ C w' ∧ Upd (r :: T) w w' := by
 have HO : Hid (∀ ww, BdAt ww b r d tv dg → RdAt ww r d p → qC 64 #[.pointer (some ⟨b, 0, none⟩)] ww (.iface 77 (.agg #[.pointer (some ⟨r, 0, none⟩)]))) := fun ww h1 h2 => mOn_normal b r d tv dg p ww h1 h2 hm
 have H := hr w hA
 have hk' : (key == 27) = false := by simp [hk]
 have hO0' : (O == 0) = false := by simp [hO0]
 have hO3' : (O == 3) = false := by simp [hO3]
 have hmt := meth_normal_take ⟨r, 0, none⟩
 exact qt47
theorem bTake_marking_doneB (b r d : Nat) (tv : Value) (dg : ByteArray) (p : Pg) (key O : Int) (C : World → Prop) (A B : World → Prop) (T : List Nat) (w : World) (hb : BdAt w b r d tv dg) (hA : A w) (fA : Firm A) (fB : Firm B) (hr : HasR A r d p) (hm : p.mode = 2 ∨ p.mode = 3) (hk : ¬ key = 27) (hbT : b ∉ T) (hO0 : ¬ O = 0) (hO3 : ¬ O = 3) (fC : Firm C) (hBr : ∀ ww, B ww → ∃ p2, RdAt ww r d p2)
  (HF : Hid (∀ ww, B ww → Calls Tryz.prog 65 #[.pointer (some ⟨r, 1, none⟩)] ww fun e w' => e = .returned (.tuple #[]) ∧ C w' ∧ Upd [r] ww w'))
  (HC : GivesB 309 #[.agg #[.pointer (some ⟨r, 0, none⟩)], .int .u8 key] A B O T) :
  Calls Tryz.prog 46 #[.pointer (some ⟨b, 0, none⟩), .int .u8 key] w fun e w' => e = .returned (.int .i64 O) ∧ C w' ∧ Upd (r :: T) w w' := by
 have HO : Hid (∀ ww, BdAt ww b r d tv dg → RdAt ww r d p → qC 64 #[.pointer (some ⟨b, 0, none⟩)] ww (.iface 81 (.agg #[.pointer (some ⟨r, 0, none⟩)]))) := fun ww h1 h2 => mOn_marking b r d tv dg p ww h1 h2 hm
 have H := hr w hA
 have hk' : (key == 27) = false := by simp [hk]
 have hO0' : (O == 0) = false := by simp [hO0]
 have hO3' : (O == 3) = false := by simp [hO3]
 have hmt := meth_marking_take ⟨r, 0, none⟩
 exact qt47
abbrev TakesB (b r d : Nat) (tv : Value) (dg : ByteArray) (key : Int) (A B : World → Prop) (O : Int) (T : List Nat) : Prop :=
 Hid (∀ ww, BdAt ww b r d tv dg → A ww → Calls Tryz.prog 46 #[.pointer (some ⟨b, 0, none⟩), .int .u8 key] ww fun e w' => e = .returned (.int .i64 O) ∧ B w' ∧ Upd T ww w')
theorem press_normal_moreB (b r d : Nat) (p : Pg) (tv : Value) (n : Nat) (xs : List Value) (dg : ByteArray) (key : Int) (A B : World → Prop) (T : List Nat) (w : World) (HB : BdAt w b r d tv dg) (ho : w.ownsRow 0 5 1 tv n xs) (hA : A w) (hr : HasR A r d p) (hbT : b ∉ T) (htb : tv.ownBlock ≠ some b) (htT : ∀ k, k ∈ T → tv.ownBlock ≠ some k) (hn : n ≤ 17592186044416) (hm : p.mode = 0) (sB : ∀ u v, B u → Upd (b :: own tv) u v → B v) (HT : TakesB b r d tv dg key A B 0 T) :
  Calls Tryz.prog 38 #[.pointer (some ⟨b, 0, none⟩), .int .u8 key] w fun e w' => e = .returned (.int .i64 0) ∧ B w' ∧ ∃ tv', BdAt w' b r d tv' dg ∧ w'.ownsRow 0 5 1 tv' (n + 1) (xs ++ [.int .u8 key]) ∧ (tv'.ownBlock = tv.ownBlock ∨ ∃ g, tv'.ownBlock = some g ∧ w.heap.size ≤ g) ∧ Upd (b :: (T ++ own tv)) w w' := by
 have HK : Hid (∀ ww, BdAt ww b r d tv dg → ww.ownsRow 0 5 1 tv n xs → Calls Tryz.prog 47 #[.pointer (some ⟨b, 1, none⟩), .int .u8 key, .int .i64 0] ww fun e w' => e = .returned (.tuple #[]) ∧ ∃ tv', BdAt w' b r d tv' dg ∧ w'.ownsRow 0 5 1 tv' (n + 1) (xs ++ [.int .u8 key]) ∧ (tv'.ownBlock = tv.ownBlock ∨ ∃ g, tv'.ownBlock = some g ∧ ww.heap.size ≤ g) ∧ Upd (b :: own tv) ww w') := fun ww h1 h2 => mKeep_normal b r d tv dg key n xs ww h1 htb h2 hn
 have HR := hr w hA
 have b0 := HB.c0
 have r0 := HR.bg.c0
 have d3 := HR.dk.c3
 rw [hm] at d3
 have bl := HB.lt
 have rl := HR.bg.lt
 have dl := HR.dk.lt
 clear hn
 go_enter Tryz.func38, Tryz.ntmps38
 go_wp2_with fail
 refine Calls.mono (HT.out _ HB hA) ?_
 rintro e w1 ⟨rfl, R1, u1⟩
 have B1 := HB.upd u1 hbT
 have o1 := ownsRow_upd ho u1 htT
 go_wp2_with fail
 refine Calls.mono (HK.out _ B1 o1) ?_
 rintro e w2 ⟨rfl, tv', B2, o2, f2, u2⟩
 have hz1 := u1.size
 have F : Hid (tv'.ownBlock = tv.ownBlock ∨ ∃ g, tv'.ownBlock = some g ∧ w1.heap.size ≤ g) := f2
 clear f2
 go_wp2
 go_ret
 refine ⟨rfl, sB _ _ R1 u2, tv', B2, o2, ?_, ?_⟩
 ·rcases F.out with hf | ⟨g, hg, hg2⟩
  ·exact Or.inl hf
  ·exact Or.inr ⟨g, hg, by omega⟩
 ·exact (u1.mono (by intro k hk; simp [hk])).trans (u2.mono (by intro k hk; simp only [List.mem_cons, List.mem_append] at hk ⊢; rcases hk with hk | hk <;> simp [hk]))
theorem press_normal_doneB (b r d : Nat) (p : Pg) (tv : Value) (n : Nat) (xs : List Value) (dg : ByteArray) (key O : Int) (A B : World → Prop) (T : List Nat) (w : World) (HB : BdAt w b r d tv dg) (ho : w.ownsRow 0 5 1 tv n xs) (hA : A w) (hr : HasR A r d p) (hbT : b ∉ T) (htb : tv.ownBlock ≠ some b) (htT : ∀ k, k ∈ T → tv.ownBlock ≠ some k) (hn : n ≤ 17592186044416) (hm : p.mode = 0) (sB : ∀ u v, B u → Upd (b :: own tv) u v → B v) (fB : Firm B) (hB : ∀ ww, B ww → ∃ p2, RdAt ww r d p2 ∧ ¬ p2.mode = 1 ∧ p2.now = p2.t) (hbr : b ≠ r) (hbd : b ≠ d) (hO0 : ¬ O = 0) (hO2 : ¬ O = 2) (HT : TakesB b r d tv dg key A B O T) :
  Calls Tryz.prog 38 #[.pointer (some ⟨b, 0, none⟩), .int .u8 key] w fun e w' => e = .returned (.int .i64 O) ∧ B w' ∧ BdAt w' b r d (.slice none 0 0) dg ∧ Upd (b :: (T ++ own tv)) w w' := by
 have HK : Hid (∀ ww, BdAt ww b r d tv dg → ww.ownsRow 0 5 1 tv n xs → Calls Tryz.prog 47 #[.pointer (some ⟨b, 1, none⟩), .int .u8 key, .int .i64 0] ww fun e w' => e = .returned (.tuple #[]) ∧ ∃ tv', BdAt w' b r d tv' dg ∧ w'.ownsRow 0 5 1 tv' (n + 1) (xs ++ [.int .u8 key]) ∧ (tv'.ownBlock = tv.ownBlock ∨ ∃ g, tv'.ownBlock = some g ∧ ww.heap.size ≤ g) ∧ Upd (b :: own tv) ww w') := fun ww h1 h2 => mKeep_normal b r d tv dg key n xs ww h1 htb h2 hn
 have HE : Hid (∀ tv' ww, BdAt ww b r d tv' dg → Calls Tryz.prog 48 #[.pointer (some ⟨b, 1, none⟩), .int .i64 O] ww fun e w' => e = .returned (.tuple #[]) ∧ BdAt w' b r d (.slice none 0 0) dg ∧ Upd [b] ww w') := fun tv' ww h1 => mEnd b r d tv' dg O ww h1 hO2
 have HR := hr w hA
 have b0 := HB.c0
 have r0 := HR.bg.c0
 have d3 := HR.dk.c3
 rw [hm] at d3
 have bl := HB.lt
 have rl := HR.bg.lt
 have dl := HR.dk.lt
 have hO0' : (O == 0) = false := by simp [hO0]
 have hO0q : (O != 0) = true := by simp [hO0]
 clear hn hO0 hO2
 go_enter Tryz.func38, Tryz.ntmps38
 go_wp2_with fail
 refine Calls.mono (HT.out _ HB hA) ?_
 rintro e w1 ⟨rfl, R1, u1⟩
 have B1 := HB.upd u1 hbT
 have o1 := ownsRow_upd ho u1 htT
 go_wp2_with fail
 refine Calls.mono (HK.out _ B1 o1) ?_
 rintro e w2 ⟨rfl, tv', B2, o2, f2, u2⟩
 have S2 := sB _ _ R1 u2
 obtain ⟨p2, R2, hm2, hnow⟩ := hB w2 S2
 have HH : Hid (∀ ww, RdAt ww r d p2 → qC 49 #[.pointer (some ⟨d, 5, none⟩), .string p2.t] ww (.tuple #[])) := fun ww h1 => hKeep_same r d p2 ww h1 hnow
 have hm2q : (p2.mode != 1) = true := by simp [hm2]
 have hm2' : (p2.mode == 1) = false := by simp [hm2]
 have e0 := B2.c0
 have e1 := R2.bg.c0
 have e2 := R2.dk.c3
 clear f2 o2 hm2 hnow
 go_wp2_with fail
 refine Calls.mono (HE.out _ _ B2) ?_
 rintro e w3 ⟨rfl, B3, u3⟩
 have R3 : RdAt w3 r d p2 := R2.upd u3 (by simp; exact fun e => hbr e.symm) (by simp; exact fun e => hbd e.symm)
 have S3 := sB _ _ S2 (u3.mono qi)
 have g0 := B3.c0
 have g1 := R3.bg.c0
 have g2 := R3.dk.c0
 have H := R3
 go_wp2_with fail
 go_region_held3 (fun ww => ww.cell? ⟨b, 0, none⟩ = some (.pointer (some ⟨r, 0, none⟩)) ∧ ww.cell? ⟨r, 0, none⟩ = some (.pointer (some ⟨d, 0, none⟩)) ∧ ww.cell? ⟨d, 0, none⟩ = some (.string p2.t)) (exact qK) ((go_at_call 49; refine Calls.mono (HH.out _ qRd) ?_; rintro r4 w4 ⟨rfl, h4⟩; have hz4 := h4.size; (try simp at hz4); (try have ⟨hl4_0, hk4_0⟩ := qL b w4.heap.size); (try have ⟨hl4_1, hk4_1⟩ := qL d w4.heap.size); (try have ⟨hl4_2, hk4_2⟩ := qL r w4.heap.size)))
 go_wp2
 go_ret
 have B4 := (B3.drew).below h4
 refine ⟨rfl, fB _ _ (fB _ _ S3 ((Below.refl _ _).drew)) h4, B4, ?_⟩
 refine Upd.below (Upd.drew ?_) h4
 exact ((u1.mono (by intro k hk; simp [hk])).trans (u2.mono (by intro k hk; simp only [List.mem_cons, List.mem_append] at hk ⊢; rcases hk with hk | hk <;> simp [hk]))).trans (u3.mono qi)
def lem (s : ByteArray) (m : Nat) : Bool := Nib.att s m == Nib.fin s (Nib.att s m)
def alD (s : ByteArray) (E : Bool) : Nat → Nat → Nat
 | 0, m => m
 | n + 1, m => if lem s (m + 1) = E then alD s E n (m + 1) else m
def alU (s : ByteArray) (E : Bool) : Nat → Nat
 | 0 => 0
 | m + 1 => if lem s m = E then alU s E m else m + 1
theorem alD_le (s : ByteArray) (E : Bool) : ∀ n m, m ≤ alD s E n m ∧ alD s E n m ≤ m + n := by
 intro n
 induction n with
 | zero => intro m; exact ⟨Nat.le_refl _, Nat.le_refl _⟩
 | succ n ih =>
  intro m
  simp only [alD]
  split
  ·have := ih (m + 1); omega
  ·omega
theorem alU_le (s : ByteArray) (E : Bool) : ∀ m, alU s E m ≤ m := by
 intro m
 induction m with
 | zero => exact Nat.le_refl _
 | succ m ih =>
  simp only [alU]
  split <;> omega
theorem tBesideD (s : ByteArray) (a : Int) (m : Nat) (w : World) (hs : s.size ≤ 1000) (h : m + 1 < Nib.lns s) :
  qC 223 #[.string s, .agg #[.int .i64 (a), .int .i64 (Nib.fin s (Nib.att s m))], .int .i64 1] w (.tuple #[.agg #[.int .i64 (Nib.att s (m + 1)), .int .i64 (Nib.fin s (Nib.att s (m + 1)))], .bool true]) := by
 have h1 := Nib.fin_lt_of h
 have h2 := Nib.line_down h
 have HL : qH 195 #[.string s, .int .i64 (((Nib.fin s (Nib.att s m) : Nat) : Int) + 1)] (.agg #[.int .i64 (Nib.att s (m + 1)), .int .i64 (Nib.fin s (Nib.att s (m + 1)))]) := by
  intro ww
  have := tLine_any s (((Nib.fin s (Nib.att s m) : Nat) : Int) + 1) (Nib.fin s (Nib.att s m) + 1) ww hs qo qo
  rw [h2.1, h2.2] at this
  exact this
 clear h2
 generalize Nib.att s (m + 1) = A at *
 generalize Nib.fin s A = B at *
 generalize Nib.fin s (Nib.att s m) = F at *
 go_enter Tryz.func223, Tryz.ntmps223
 go_wp2_with fail
 refine (HL.out _).mono ?_
 rintro e w1 ⟨rfl, h1⟩
 obtain ⟨hc1, hf1, hz1⟩ := qb h1
 try simp at hz1
 go_wp2
 exact qV (.tuple #[.agg #[.int .i64 (A), .int .i64 (B)], .bool true]) (by simp [results, Tryz.results223, go_sem, hc1]) rfl
theorem fin_lastN {s : ByteArray} {m : Nat} (h : m < Nib.lns s) (h2 : ¬ m + 1 < Nib.lns s) : Nib.fin s (Nib.att s m) = s.size := Nib.fin_last qo
theorem tBes_dn (s : ByteArray) (a : Int) (y : Nat) (hs : s.size ≤ 1000) (hy : y < Nib.lns s) : ∃ (A B : Int), (y + 1 < Nib.lns s → A = Nib.att s (y + 1) ∧ B = Nib.fin s (Nib.att s (y + 1))) ∧ ∀ ww, qC 223 #[.string s, .agg #[.int .i64 (a), .int .i64 (Nib.fin s (Nib.att s y))], .int .i64 1] ww (.tuple #[.agg #[.int .i64 (A), .int .i64 (B)], .bool (decide (y + 1 < Nib.lns s))]) := by
 by_cases h : y + 1 < Nib.lns s
 ·refine ⟨_, _, fun _ => ⟨rfl, rfl⟩, fun ww => ?_⟩
  rw [decide_eq_true h]
  exact tBesideD s a y ww hs h
 ·refine ⟨0, 0, fun h2 => absurd h2 h, fun ww => ?_⟩
  rw [decide_eq_false h]
  exact tBeside_none s a _ 1 ww hs (Or.inl rfl) (fun _ => by rw [fin_lastN hy h]) (fun e => by cases e)
theorem tBes_up (s : ByteArray) (b : Int) (x : Nat) (hs : s.size ≤ 1000) (hx : x < Nib.lns s) : ∃ (A B : Int), (0 < x → A = Nib.att s (x - 1) ∧ B = Nib.fin s (Nib.att s (x - 1))) ∧ ∀ ww, qC 223 #[.string s, .agg #[.int .i64 (Nib.att s x), .int .i64 (b)], .int .i64 (-1)] ww (.tuple #[.agg #[.int .i64 (A), .int .i64 (B)], .bool (decide (0 < x))]) := by
 by_cases h : 0 < x
 ·refine ⟨_, _, fun _ => ⟨rfl, rfl⟩, fun ww => ?_⟩
  rw [decide_eq_true h]
  exact tBeside_up s _ b (-1) x ww hs rfl hx rfl h
 ·refine ⟨0, 0, fun h2 => absurd h2 h, fun ww => ?_⟩
  rw [decide_eq_false h]
  have hx0 : x = 0 := by omega
  subst hx0
  exact tBeside_none s _ b (-1) ww hs (Or.inr rfl) (fun e => by cases e) (fun _ => rfl)
theorem tEmp_line (s : ByteArray) (m : Nat) (w : World) :
  qC 185 #[.agg #[.int .i64 (Nib.att s m), .int .i64 (Nib.fin s (Nib.att s m))]] w (.bool (lem s m)) := by
 have := tIsEmpty_any (Nib.att s m) (Nib.fin s (Nib.att s m)) w
 rw [show (((Nib.att s m : Nat) : Int) == ((Nib.fin s (Nib.att s m) : Nat) : Int)) = lem s m by
  unfold lem
  by_cases e : Nib.att s m = Nib.fin s (Nib.att s m)
  ·rw [beq_iff_eq.2 e, beq_iff_eq.2 qo]
  ·rw [beq_eq_false_iff_ne.2 e, beq_eq_false_iff_ne.2 qo]] at this
 exact this
theorem att_monoO (s : ByteArray) (m : Nat) : ∀ n, Nib.att s m ≤ Nib.att s (m + n) := by
 intro n
 induction n with
 | zero => exact Nat.le_refl _
 | succ n ih =>
  have h : Nib.att s (m + (n + 1)) = Nib.fin s (Nib.att s (m + n)) + 1 := rfl
  have := Nib.fin_ge s (Nib.att s (m + n))
  omega
theorem qt43 {P : Prop} (h : P := by
  exact ⟨memLater h6 (memLater h5 (memLater ((Below.refl _ _).drew) n0)), memLater h6 (memLater h5 (memLater ((Below.refl _ _).drew) n1)), memLater h6 (memLater h5 (memLater ((Below.refl _ _).drew) l0)), memLater h6 (memLater h5 (memLater ((Below.refl _ _).drew) l1))⟩
 ) : P := h
theorem qt49 {P : Prop} (h : P := by
  exact ⟨memLater h5 (memLater ((Below.refl _ _).drew) n0), memLater h5 (memLater ((Below.refl _ _).drew) n1), memLater h5 (memLater ((Below.refl _ _).drew) l0), memLater h5 (memLater ((Below.refl _ _).drew) l1)⟩
 ) : P := h
theorem qt62 {P : Prop} (h : P := by
  exact ⟨memLater ((Below.refl _ _).drew) n0, memLater ((Below.refl _ _).drew) n1, memLater ((Below.refl _ _).drew) l0, memLater ((Below.refl _ _).drew) l1⟩
 ) : P := h
theorem oAlike (s : ByteArray) (m : Nat) (hs : s.size ≤ 1000) (hm : m < Nib.lns s) :
  ∃ x y : Nat, x ≤ m ∧ m ≤ y ∧ y < Nib.lns s ∧ ∀ ww, qC 262 #[.string s, .agg #[.int .i64 (Nib.att s m), .int .i64 (Nib.fin s (Nib.att s m))]] ww (.agg #[.int .i64 (Nib.att s x), .int .i64 (Nib.fin s (Nib.att s y))]) := by
 have hD := alD_le s (lem s m) (Nib.lns s - 1 - m) m
 have hU := alU_le s (lem s m) m
 obtain ⟨Y, hY⟩ : ∃ Y, alD s (lem s m) (Nib.lns s - 1 - m) m = Y := ⟨_, rfl⟩
 obtain ⟨X0, hX0⟩ : ∃ X0, alU s (lem s m) m = X0 := ⟨_, rfl⟩
 rw [hY] at hD
 rw [hX0] at hU
 have HY : Hid (alD s (lem s m) (Nib.lns s - 1 - m) m = Y) := hY
 have HX : Hid (alU s (lem s m) m = X0) := hX0
 clear hY hX0
 refine ⟨X0, Y, hU, hD.1, by omega, fun w => ?_⟩
 have HEm : qH 185 #[.agg #[.int .i64 (Nib.att s m), .int .i64 (Nib.fin s (Nib.att s m))]] (.bool (lem s m)) := fun ww => tEmp_line s m ww
 have hix0 : ∀ ww : World, (Instr.index 127 (.agg #[.int .i64 1, .int .i64 (-1)]) (.int .i64 0)).run Tryz.prog ww = .ok (.int .i64 1) ww := fun _ => by kernel_rfl
 have hix1 : ∀ ww : World, (Instr.index 127 (.agg #[.int .i64 1, .int .i64 (-1)]) (.int .i64 1)).run Tryz.prog ww = .ok (.int .i64 (-1)) ww := fun _ => by kernel_rfl
 go_enter Tryz.func262, Tryz.ntmps262
 go_wp2_with fail
 go_loopw [12] (fun iv wr => ∃ (k x y : Nat), iv = .int .i64 k ∧ ((k = 0 ∧ x = m ∧ y = m) ∨ (k = 1 ∧ x = m ∧ y = Y) ∨ (k = 2 ∧ x = X0 ∧ y = Y)) ∧ Two wr w.heap.size (Nib.att s m) (Nib.fin s (Nib.att s m)) ∧ Two wr (w.heap.size + 1) 0 0 ∧ Two wr (w.heap.size + 1 + 1) (Nib.att s x) (Nib.fin s (Nib.att s y)) ∧ Below w.heap.size w wr) (fun iv _ => 2 - (intOf iv).toNat)
 case atStart =>
  refine ⟨0, m, m, rfl, Or.inl ⟨rfl, rfl, rfl⟩, Two.alloc (Two.alloc (Two.new _ _ _ _) _) _, Two.alloc (by have := Two.new (w.alloc (.cells #[.int .i64 (Nib.att s m), .int .i64 (Nib.fin s (Nib.att s m))] 128)) 0 0 128; simpa using this) _, by have := Two.new ((w.alloc (.cells #[.int .i64 (Nib.att s m), .int .i64 (Nib.fin s (Nib.att s m))] 128)).alloc (.cells #[.int .i64 0, .int .i64 0] 128)) (Nib.att s m) (Nib.fin s (Nib.att s m)) 128; simpa using this, ?_⟩
  repeat exact qB
 case round =>
  obtain ⟨k, x, y, rfl, hkxy, L, Q, T, hB⟩ := hrel
  have zB := hB.size
  have l0 := L.c0; have l1 := L.c1; have ll := L.lt
  have ⟨q0, q1, qz, ql⟩ := Q
  have ⟨t0, t1, tz, tl⟩ := T
  rcases hkxy with ⟨ek, ex, ey⟩ | ⟨ek, ex, ey⟩ | ⟨ek, ex, ey⟩
  ·have ex := ex.symm
   have ey := ey.symm
   subst ek ex ey
   obtain ⟨A0, B0, hAB0, HB0⟩ := tBes_dn s (Nib.att s m) (m) hs hm
   have HB0 : qH 223 #[.string s, .agg #[.int .i64 (Nib.att s m), .int .i64 (Nib.fin s (Nib.att s (m)))], .int .i64 1] (.tuple #[.agg #[.int .i64 (A0), .int .i64 (B0)], .bool (decide (m + 1 < Nib.lns s))]) := HB0
   go_wp2_with fail
   refine (HB0.out _).mono ?_
   rintro r4 w4 ⟨rfl, h4⟩
   obtain ⟨hc4, hf4, hz4⟩ := qb h4
   (try simp at hz4)
   have L4 : Two w4 (w.heap.size) (Nib.att s m) (Nib.fin s (Nib.att s m)) := qTw
   have ⟨L4_0, L4_1, L4_z, L4_l⟩ := L4
   have Q4 : Two w4 (w.heap.size + 1) (0) (0) := qTw
   have ⟨Q4_0, Q4_1, Q4_z, Q4_l⟩ := Q4
   have T4 : Two w4 (w.heap.size + 1 + 1) (Nib.att s m) (Nib.fin s (Nib.att s (m))) := qTw
   have ⟨T4_0, T4_1, T4_z, T4_l⟩ := T4
   clear hc4 hf4
   have U4 : Below w.heap.size w w4 := by
    repeat exact qB
   go_wp2_with fail
   have N5 : Two (w4.alloc (.cells #[.int .i64 A0, .int .i64 B0] 128)) w4.heap.size A0 B0 := Two.new _ _ _ _
   have L5 := L4.alloc (.cells #[.int .i64 A0, .int .i64 B0] 128)
   have Q5 := Q4.alloc (.cells #[.int .i64 A0, .int .i64 B0] 128)
   have T5 := T4.alloc (.cells #[.int .i64 A0, .int .i64 B0] 128)
   have z4 := U4.size
   have U5 : Below w.heap.size w (w4.alloc (.cells #[.int .i64 A0, .int .i64 B0] 128)) := by
    repeat exact qB
   have ln4 : w.heap.size + 1 + 1 < w4.heap.size := T4.lt
   clear L4 Q4 T4 L4_0 L4_1 L4_z L4_l Q4_0 Q4_1 Q4_z Q4_l T4_0 T4_1 T4_z T4_l h4 U4 HB0 L Q T l0 l1 ll q0 q1 qz ql t0 t1 tz tl hB zB
   generalize (w4.alloc (.cells #[.int .i64 A0, .int .i64 B0] 128)) = W5 at *
   generalize w4.heap.size = nb at *
   go_loopg [9] (Nib.lns s - 1 - (m)) (fun g iv wx => ∃ (y : Nat) (A B : Int), m ≤ y ∧ y < Nib.lns s ∧ g = Nib.lns s - 1 - (y) ∧ (y + 1 < Nib.lns s → A = Nib.att s (y + 1) ∧ B = Nib.fin s (Nib.att s (y + 1))) ∧ iv = .bool (decide (y + 1 < Nib.lns s)) ∧ Hid (alD s (lem s m) (Nib.lns s - 1 - (y)) (y) = Y) ∧ Two wx w.heap.size (Nib.att s m) (Nib.fin s (Nib.att s m)) ∧ Two wx (w.heap.size + 1) 0 0 ∧ Two wx (w.heap.size + 1 + 1) (Nib.att s m) (Nib.fin s (Nib.att s (y))) ∧ Two wx nb A B ∧ Below w.heap.size w wx)
   case atStart => exact ⟨m, A0, B0, Nat.le_refl _, hm, rfl, hAB0, rfl, HY, L5, Q5, T5, N5, U5⟩
   case round =>
    clear N5 L5 Q5 T5 U5 HY hAB0
    obtain ⟨y, A, B, hy1, hy2, hg, hAB, rfl, HF, L, Q, T, N, hB⟩ := hrel
    have zB := hB.size
    have l0 := L.c0; have l1 := L.c1; have ll := L.lt
    have ⟨q0, q1, qz, ql⟩ := Q
    have ⟨t0, t1, tz, tl⟩ := T
    have ⟨n0, n1, nz, nl⟩ := N
    by_cases hc : y + 1 < Nib.lns s
    ·rw [decide_eq_true hc]
     obtain ⟨eA, eB⟩ := hAB hc
     subst eA eB
     have hEn := fun ww => tEmp_line s (y + 1) ww
     by_cases hE : lem s (y + 1) = lem s m
     ·rw [hE] at hEn
      have HEn : qH 185 #[.agg #[.int .i64 (Nib.att s (y + 1)), .int .i64 (Nib.fin s (Nib.att s (y + 1)))]] (.bool (lem s m)) := hEn
      have HF2 : Hid (alD s (lem s m) (Nib.lns s - 1 - (y + 1)) (y + 1) = Y) := by
       have := HF.out
       rw [show Nib.lns s - 1 - y = (Nib.lns s - 1 - (y + 1)) + 1 by omega] at this
       simp only [alD] at this
       rw [if_pos hE] at this
       exact this
      have m1 := att_monoO s (m) (y + 1 - m)
      rw [show m + (y + 1 - m) = y + 1 by omega] at m1
      have m2 : Nib.fin s (Nib.att s y) ≤ Nib.fin s (Nib.att s (y + 1)) := by
       have e : Nib.att s (y + 1) = Nib.fin s (Nib.att s y) + 1 := rfl
       have := Nib.fin_ge s (Nib.att s (y + 1))
       omega
      have HJ : qH 196 #[.agg #[.int .i64 (Nib.att s m), .int .i64 (Nib.fin s (Nib.att s (y)))], .agg #[.int .i64 (Nib.att s (y + 1)), .int .i64 (Nib.fin s (Nib.att s (y + 1)))]] (.agg #[.int .i64 (Nib.att s m), .int .i64 (Nib.fin s (Nib.att s (y + 1)))]) := by
       intro ww
       have := tJoin_nat (Nib.att s m) (Nib.fin s (Nib.att s (y))) (Nib.att s (y + 1)) (Nib.fin s (Nib.att s (y + 1))) ww
       rw [show min (Nib.att s m) (Nib.att s (y + 1)) = Nib.att s m by omega, show max (Nib.fin s (Nib.att s (y))) (Nib.fin s (Nib.att s (y + 1))) = Nib.fin s (Nib.att s (y + 1)) by omega] at this
       exact this
      obtain ⟨A2, B2, hAB2, HB2⟩ := tBes_dn s (Nib.att s m) (y + 1) hs hc
      have HB2 : qH 223 #[.string s, .agg #[.int .i64 (Nib.att s m), .int .i64 (Nib.fin s (Nib.att s (y + 1)))], .int .i64 1] (.tuple #[.agg #[.int .i64 (A2), .int .i64 (B2)], .bool (decide ((y + 1) + 1 < Nib.lns s))]) := HB2
      clear m1 m2 hE hAB HF
      go_wp2_with fail
      refine wp_region_held_drew (S := fun ww => ww.cell? ⟨nb, 0, none⟩ = some (.int .i64 (Nib.att s (y + 1))) ∧ ww.cell? ⟨nb, 1, none⟩ = some (.int .i64 (Nib.fin s (Nib.att s (y + 1)))) ∧ ww.cell? ⟨w.heap.size, 0, none⟩ = some (.int .i64 (Nib.att s m)) ∧ ww.cell? ⟨w.heap.size, 1, none⟩ = some (.int .i64 (Nib.fin s (Nib.att s m)))) qk ?_ (fun hHeld => ?_)
      ·exact qt62
      refine qT 0 ?_
      simp only [Act.put, qP]
      refine qT 1 ?_
      simp only [Act.put, qP]
      refine qT 2 ?_
      simp only [Act.put, qP]
      refine qT 4 ?_
      simp only [Act.put, qP]
      refine qR 3 fun K hK => ?_
      rw [if_pos (by rfl)]
      go_wp2_with fail
      refine (HEn.out _).mono ?_
      rintro r5 w5 ⟨rfl, h5⟩
      obtain ⟨hc5, hf5, hz5⟩ := qb h5
      (try simp at hz5)
      go_wp2_with fail
      refine hK.out _ _ ?_ (fun hHeld => ?_)
      ·exact qt49
      clear hK K
      try simp only [Act.put, qP]
      clear hc5 hf5
      refine qR 5 fun K hK => ?_
      rw [if_pos (by rfl)]
      go_wp2_with fail
      refine (HEm.out _).mono ?_
      rintro r6 w6 ⟨rfl, h6⟩
      obtain ⟨hc6, hf6, hz6⟩ := qb h6
      (try simp at hz6)
      go_wp2_with fail
      refine hK.out _ _ ?_ (fun hHeld => ?_)
      ·exact qt43
      clear hK K
      try simp only [Act.put, qP]
      clear hc6 hf6
      refine qT 6 ?_
      simp only [Act.put, qP]
      refine qT 7 ?_
      simp only [Act.put, qP]
      refine wpAnyH_done qk ?_ _
      have hB6 : Below w.heap.size w w6 := by
       repeat exact qB
      have z6 := hB6.size
      have L6 := ((L.drew).below h5).below h6
      have Q6 := ((Q.drew).below h5).below h6
      have T6 := ((T.drew).below h5).below h6
      have N6 := ((N.drew).below h5).below h6
      clear L Q T N l0 l1 ll q0 q1 qz ql t0 t1 tz tl n0 n1 nz nl hB zB h5 h6
      have ⟨q0, q1, qz, ql⟩ := Q6
      have ⟨t0, t1, tz, tl⟩ := T6
      have ⟨n0, n1, nz, nl⟩ := N6
      go_wp2_with fail
      refine (HJ.out _).mono ?_
      rintro e w7 ⟨rfl, h7⟩
      obtain ⟨hc7, hf7, hz7⟩ := qb h7
      try simp at hz7
      have L7 := L6.below h7; have Q7 := Q6.below h7; have T7 := T6.below h7; have N7 := N6.below h7
      have z7 := h7.size
      clear hc7 hf7 L6 Q6 T6 N6 q0 q1 qz ql t0 t1 tz tl n0 n1 nz nl
      have ⟨t0, t1, tz, tl⟩ := T7
      have ⟨n0, n1, nz, nl⟩ := N7
      have hB7 : Below w.heap.size w w7 := by
       repeat exact qB
      have T8 : Two ((w7.setCell ⟨w.heap.size + 1 + 1, 0, none⟩ (.int .i64 (Nib.att s m))).setCell ⟨w.heap.size + 1 + 1, 1, none⟩ (.int .i64 (Nib.fin s (Nib.att s (y + 1))))) (w.heap.size + 1 + 1) (Nib.att s m) (Nib.fin s (Nib.att s (y + 1))) := Two.set1 (Two.set0 T7 _) _
      have L8 : Two ((w7.setCell ⟨w.heap.size + 1 + 1, 0, none⟩ (.int .i64 (Nib.att s m))).setCell ⟨w.heap.size + 1 + 1, 1, none⟩ (.int .i64 (Nib.fin s (Nib.att s (y + 1))))) w.heap.size (Nib.att s m) (Nib.fin s (Nib.att s m)) := Two.other (Two.other L7 qf _) qf _
      have Q8 : Two ((w7.setCell ⟨w.heap.size + 1 + 1, 0, none⟩ (.int .i64 (Nib.att s m))).setCell ⟨w.heap.size + 1 + 1, 1, none⟩ (.int .i64 (Nib.fin s (Nib.att s (y + 1))))) (w.heap.size + 1) 0 0 := Two.other (Two.other Q7 qf _) qf _
      have N8 : Two ((w7.setCell ⟨w.heap.size + 1 + 1, 0, none⟩ (.int .i64 (Nib.att s m))).setCell ⟨w.heap.size + 1 + 1, 1, none⟩ (.int .i64 (Nib.fin s (Nib.att s (y + 1))))) nb (Nib.att s (y + 1)) (Nib.fin s (Nib.att s (y + 1))) := Two.other (Two.other N7 qf _) qf _
      have hB8 : Below w.heap.size w ((w7.setCell ⟨w.heap.size + 1 + 1, 0, none⟩ (.int .i64 (Nib.att s m))).setCell ⟨w.heap.size + 1 + 1, 1, none⟩ (.int .i64 (Nib.fin s (Nib.att s (y + 1))))) := Below.setCell (Below.setCell hB7 qf _) qf _
      have x0 := T8.c0; have x1 := T8.c1
      go_wp2_with fail
      refine (HB2.out _).mono ?_
      rintro e w9 ⟨rfl, h9⟩
      obtain ⟨hc9, hf9, hz9⟩ := qb h9
      try simp at hz9
      have L9 := L8.below h9; have Q9 := Q8.below h9; have T9 := T8.below h9; have N9 := N8.below h9
      have hB9 : Below w.heap.size w w9 := hB8.trans (h9.mono hB8.size)
      have ⟨m0, m1, mz, ml⟩ := N9
      clear hc9 hf9
      go_wp2
      go_roundg (Nib.lns s - 1 - (y + 1))
      case measure => omega
      case rel => exact ⟨y + 1, A2, B2, by omega, hc, rfl, hAB2, rfl, HF2, Two.other (Two.other L9 qf _) qf _, Two.other (Two.other Q9 qf _) qf _, Two.other (Two.other T9 qf _) qf _, Two.set1 (Two.set0 N9 _) _, Below.setCell (Below.setCell hB9 qf _) qf _⟩
     ·have HEn : qH 185 #[.agg #[.int .i64 (Nib.att s (y + 1)), .int .i64 (Nib.fin s (Nib.att s (y + 1)))]] (.bool (lem s (y + 1))) := hEn
      have eY : Hid (y = Y) := by
       have := HF.out
       rw [show Nib.lns s - 1 - y = (Nib.lns s - 1 - (y + 1)) + 1 by omega] at this
       simp only [alD] at this
       rw [if_neg hE] at this
       exact this
      have hE2 : (lem s (y + 1) == lem s m) = false := by simp [hE]
      generalize lem s (y + 1) = e1 at *
      have HEm2 := HEm
      generalize lem s m = e2 at *
      clear HF
      go_wp2_with fail
      refine wp_region_held_drew (S := fun ww => ww.cell? ⟨nb, 0, none⟩ = some (.int .i64 (Nib.att s (y + 1))) ∧ ww.cell? ⟨nb, 1, none⟩ = some (.int .i64 (Nib.fin s (Nib.att s (y + 1)))) ∧ ww.cell? ⟨w.heap.size, 0, none⟩ = some (.int .i64 (Nib.att s m)) ∧ ww.cell? ⟨w.heap.size, 1, none⟩ = some (.int .i64 (Nib.fin s (Nib.att s m)))) qk ?_ (fun hHeld => ?_)
      ·exact qt62
      refine qT 0 ?_
      simp only [Act.put, qP]
      refine qT 1 ?_
      simp only [Act.put, qP]
      refine qT 2 ?_
      simp only [Act.put, qP]
      refine qT 4 ?_
      simp only [Act.put, qP]
      refine qR 3 fun K hK => ?_
      rw [if_pos (by rfl)]
      go_wp2_with fail
      refine (HEn.out _).mono ?_
      rintro r5 w5 ⟨rfl, h5⟩
      obtain ⟨hc5, hf5, hz5⟩ := qb h5
      (try simp at hz5)
      go_wp2_with fail
      refine hK.out _ _ ?_ (fun hHeld => ?_)
      ·exact qt49
      clear hK K
      try simp only [Act.put, qP]
      clear hc5 hf5
      refine qR 5 fun K hK => ?_
      rw [if_pos (by rfl)]
      go_wp2_with fail
      refine (HEm.out _).mono ?_
      rintro r6 w6 ⟨rfl, h6⟩
      obtain ⟨hc6, hf6, hz6⟩ := qb h6
      (try simp at hz6)
      go_wp2_with fail
      refine hK.out _ _ ?_ (fun hHeld => ?_)
      ·exact qt43
      clear hK K
      try simp only [Act.put, qP]
      clear hc6 hf6
      refine qT 6 ?_
      simp only [Act.put, qP]
      refine qT 7 ?_
      simp only [Act.put, qP]
      refine wpAnyH_done qk ?_ _
      have hB6 : Below w.heap.size w w6 := by
       repeat exact qB
      have z6 := hB6.size
      have L6 := ((L.drew).below h5).below h6
      have Q6 := ((Q.drew).below h5).below h6
      have T6 := ((T.drew).below h5).below h6
      have N6 := ((N.drew).below h5).below h6
      clear L Q T N l0 l1 ll q0 q1 qz ql t0 t1 tz tl n0 n1 nz nl hB zB h5 h6
      have ⟨q0, q1, qz, ql⟩ := Q6
      have ⟨t0, t1, tz, tl⟩ := T6
      have ⟨n0, n1, nz, nl⟩ := N6
      have eY := eY.out
      subst eY
      go_wp2
      go_round
      case rel => exact ⟨1, m, y, by go_num, Or.inr (Or.inl ⟨rfl, rfl, rfl⟩), L6, Q6, T6, hB6⟩
      case measure => simp [intOf] <;> omega
    ·rw [decide_eq_false hc]
     have eY : y = Y := by
      have := HF.out
      rw [show Nib.lns s - 1 - y = 0 by omega] at this
      exact this
     subst eY
     go_wp2_with fail
     refine wp_region_held_drew (S := fun ww => ww.cell? ⟨w.heap.size, 0, none⟩ = some (.int .i64 (Nib.att s m))) qk ?_ (fun hHeld => ?_)
     ·exact memLater ((Below.refl _ _).drew) l0
     refine qT 0 ?_
     simp only [Act.put, qP]
     refine qT 1 ?_
     simp only [Act.put, qP]
     refine qS 2 ?_
     simp only [Act.put, qP]
     refine qS 3 ?_
     simp only [Act.put, qP]
     refine qS 4 ?_
     simp only [Act.put, qP]
     refine qS 5 ?_
     simp only [Act.put, qP]
     refine qS 6 ?_
     simp only [Act.put, qP]
     refine qT 7 ?_
     simp only [Act.put, qP]
     refine wpAnyH_done qk ?_ _
     go_wp2
     go_round
     case rel => exact ⟨1, m, y, by go_num, Or.inr (Or.inl ⟨rfl, rfl, rfl⟩), L.drew, Q.drew, T.drew, hB.drew⟩
     case measure => simp [intOf] <;> omega
  ·have ex := ex.symm
   have ey := ey.symm
   subst ek ex ey
   obtain ⟨A0, B0, hAB0, HB0⟩ := tBes_up s (Nib.fin s (Nib.att s Y)) (m) hs hm
   have HB0 : qH 223 #[.string s, .agg #[.int .i64 (Nib.att s (m)), .int .i64 (Nib.fin s (Nib.att s Y))], .int .i64 (-1)] (.tuple #[.agg #[.int .i64 (A0), .int .i64 (B0)], .bool (decide (0 < m))]) := HB0
   go_wp2_with fail
   refine (HB0.out _).mono ?_
   rintro r4 w4 ⟨rfl, h4⟩
   obtain ⟨hc4, hf4, hz4⟩ := qb h4
   (try simp at hz4)
   have L4 : Two w4 (w.heap.size) (Nib.att s m) (Nib.fin s (Nib.att s m)) := qTw
   have ⟨L4_0, L4_1, L4_z, L4_l⟩ := L4
   have Q4 : Two w4 (w.heap.size + 1) (0) (0) := qTw
   have ⟨Q4_0, Q4_1, Q4_z, Q4_l⟩ := Q4
   have T4 : Two w4 (w.heap.size + 1 + 1) (Nib.att s (m)) (Nib.fin s (Nib.att s Y)) := qTw
   have ⟨T4_0, T4_1, T4_z, T4_l⟩ := T4
   clear hc4 hf4
   have U4 : Below w.heap.size w w4 := by
    repeat exact qB
   go_wp2_with fail
   have N5 : Two (w4.alloc (.cells #[.int .i64 A0, .int .i64 B0] 128)) w4.heap.size A0 B0 := Two.new _ _ _ _
   have L5 := L4.alloc (.cells #[.int .i64 A0, .int .i64 B0] 128)
   have Q5 := Q4.alloc (.cells #[.int .i64 A0, .int .i64 B0] 128)
   have T5 := T4.alloc (.cells #[.int .i64 A0, .int .i64 B0] 128)
   have z4 := U4.size
   have U5 : Below w.heap.size w (w4.alloc (.cells #[.int .i64 A0, .int .i64 B0] 128)) := by
    repeat exact qB
   have ln4 : w.heap.size + 1 + 1 < w4.heap.size := T4.lt
   clear L4 Q4 T4 L4_0 L4_1 L4_z L4_l Q4_0 Q4_1 Q4_z Q4_l T4_0 T4_1 T4_z T4_l h4 U4 HB0 L Q T l0 l1 ll q0 q1 qz ql t0 t1 tz tl hB zB
   generalize (w4.alloc (.cells #[.int .i64 A0, .int .i64 B0] 128)) = W5 at *
   generalize w4.heap.size = nb at *
   go_loopg [9] (m) (fun g iv wx => ∃ (x : Nat) (A B : Int), x ≤ m ∧ g = x ∧ (0 < x → A = Nib.att s (x - 1) ∧ B = Nib.fin s (Nib.att s (x - 1))) ∧ iv = .bool (decide (0 < x)) ∧ Hid (alU s (lem s m) (x) = X0) ∧ Two wx w.heap.size (Nib.att s m) (Nib.fin s (Nib.att s m)) ∧ Two wx (w.heap.size + 1) 0 0 ∧ Two wx (w.heap.size + 1 + 1) (Nib.att s (x)) (Nib.fin s (Nib.att s Y)) ∧ Two wx nb A B ∧ Below w.heap.size w wx)
   case atStart => exact ⟨m, A0, B0, Nat.le_refl _, rfl, hAB0, rfl, HX, L5, Q5, T5, N5, U5⟩
   case round =>
    clear N5 L5 Q5 T5 U5 HX hAB0
    obtain ⟨x, A, B, hy1, hg, hAB, rfl, HF, L, Q, T, N, hB⟩ := hrel
    have zB := hB.size
    have l0 := L.c0; have l1 := L.c1; have ll := L.lt
    have ⟨q0, q1, qz, ql⟩ := Q
    have ⟨t0, t1, tz, tl⟩ := T
    have ⟨n0, n1, nz, nl⟩ := N
    by_cases hc : 0 < x
    ·rw [decide_eq_true hc]
     obtain ⟨eA, eB⟩ := hAB hc
     subst eA eB
     have hEn := fun ww => tEmp_line s (x - 1) ww
     by_cases hE : lem s (x - 1) = lem s m
     ·rw [hE] at hEn
      have HEn : qH 185 #[.agg #[.int .i64 (Nib.att s (x - 1)), .int .i64 (Nib.fin s (Nib.att s (x - 1)))]] (.bool (lem s m)) := hEn
      have HF2 : Hid (alU s (lem s m) (x - 1) = X0) := by
       have := HF.out
       rw [show x = (x - 1) + 1 by omega] at this
       simp only [alU] at this
       rw [if_pos hE] at this
       exact this
      have m1 := att_monoO s (x - 1) (1)
      rw [show x - 1 + 1 = x by omega] at m1
      have m2 : Nib.fin s (Nib.att s (x - 1)) ≤ Nib.fin s (Nib.att s Y) := by
       have e : Nib.att s (x - 1 + 1) = Nib.fin s (Nib.att s (x - 1)) + 1 := rfl
       have k1 := att_monoO s (x - 1 + 1) (Y - (x - 1 + 1))
       rw [show x - 1 + 1 + (Y - (x - 1 + 1)) = Y by omega] at k1
       have := Nib.fin_ge s (Nib.att s Y)
       omega
      have HJ : qH 196 #[.agg #[.int .i64 (Nib.att s (x)), .int .i64 (Nib.fin s (Nib.att s Y))], .agg #[.int .i64 (Nib.att s (x - 1)), .int .i64 (Nib.fin s (Nib.att s (x - 1)))]] (.agg #[.int .i64 (Nib.att s (x - 1)), .int .i64 (Nib.fin s (Nib.att s Y))]) := by
       intro ww
       have := tJoin_nat (Nib.att s (x)) (Nib.fin s (Nib.att s Y)) (Nib.att s (x - 1)) (Nib.fin s (Nib.att s (x - 1))) ww
       rw [show min (Nib.att s (x)) (Nib.att s (x - 1)) = Nib.att s (x - 1) by omega, show max (Nib.fin s (Nib.att s Y)) (Nib.fin s (Nib.att s (x - 1))) = Nib.fin s (Nib.att s Y) by omega] at this
       exact this
      obtain ⟨A2, B2, hAB2, HB2⟩ := tBes_up s (Nib.fin s (Nib.att s Y)) (x - 1) hs qo
      have HB2 : qH 223 #[.string s, .agg #[.int .i64 (Nib.att s (x - 1)), .int .i64 (Nib.fin s (Nib.att s Y))], .int .i64 (-1)] (.tuple #[.agg #[.int .i64 (A2), .int .i64 (B2)], .bool (decide (0 < (x - 1)))]) := HB2
      clear m1 m2 hE hAB HF
      go_wp2_with fail
      refine wp_region_held_drew (S := fun ww => ww.cell? ⟨nb, 0, none⟩ = some (.int .i64 (Nib.att s (x - 1))) ∧ ww.cell? ⟨nb, 1, none⟩ = some (.int .i64 (Nib.fin s (Nib.att s (x - 1)))) ∧ ww.cell? ⟨w.heap.size, 0, none⟩ = some (.int .i64 (Nib.att s m)) ∧ ww.cell? ⟨w.heap.size, 1, none⟩ = some (.int .i64 (Nib.fin s (Nib.att s m)))) qk ?_ (fun hHeld => ?_)
      ·exact qt62
      refine qT 0 ?_
      simp only [Act.put, qP]
      refine qT 1 ?_
      simp only [Act.put, qP]
      refine qT 2 ?_
      simp only [Act.put, qP]
      refine qT 4 ?_
      simp only [Act.put, qP]
      refine qR 3 fun K hK => ?_
      rw [if_pos (by rfl)]
      go_wp2_with fail
      refine (HEn.out _).mono ?_
      rintro r5 w5 ⟨rfl, h5⟩
      obtain ⟨hc5, hf5, hz5⟩ := qb h5
      (try simp at hz5)
      go_wp2_with fail
      refine hK.out _ _ ?_ (fun hHeld => ?_)
      ·exact qt49
      clear hK K
      try simp only [Act.put, qP]
      clear hc5 hf5
      refine qR 5 fun K hK => ?_
      rw [if_pos (by rfl)]
      go_wp2_with fail
      refine (HEm.out _).mono ?_
      rintro r6 w6 ⟨rfl, h6⟩
      obtain ⟨hc6, hf6, hz6⟩ := qb h6
      (try simp at hz6)
      go_wp2_with fail
      refine hK.out _ _ ?_ (fun hHeld => ?_)
      ·exact qt43
      clear hK K
      try simp only [Act.put, qP]
      clear hc6 hf6
      refine qT 6 ?_
      simp only [Act.put, qP]
      refine qT 7 ?_
      simp only [Act.put, qP]
      refine wpAnyH_done qk ?_ _
      have hB6 : Below w.heap.size w w6 := by
       repeat exact qB
      have z6 := hB6.size
      have L6 := ((L.drew).below h5).below h6
      have Q6 := ((Q.drew).below h5).below h6
      have T6 := ((T.drew).below h5).below h6
      have N6 := ((N.drew).below h5).below h6
      clear L Q T N l0 l1 ll q0 q1 qz ql t0 t1 tz tl n0 n1 nz nl hB zB h5 h6
      have ⟨q0, q1, qz, ql⟩ := Q6
      have ⟨t0, t1, tz, tl⟩ := T6
      have ⟨n0, n1, nz, nl⟩ := N6
      go_wp2_with fail
      refine (HJ.out _).mono ?_
      rintro e w7 ⟨rfl, h7⟩
      obtain ⟨hc7, hf7, hz7⟩ := qb h7
      try simp at hz7
      have L7 := L6.below h7; have Q7 := Q6.below h7; have T7 := T6.below h7; have N7 := N6.below h7
      have z7 := h7.size
      clear hc7 hf7 L6 Q6 T6 N6 q0 q1 qz ql t0 t1 tz tl n0 n1 nz nl
      have ⟨t0, t1, tz, tl⟩ := T7
      have ⟨n0, n1, nz, nl⟩ := N7
      have hB7 : Below w.heap.size w w7 := by
       repeat exact qB
      have T8 : Two ((w7.setCell ⟨w.heap.size + 1 + 1, 0, none⟩ (.int .i64 (Nib.att s (x - 1)))).setCell ⟨w.heap.size + 1 + 1, 1, none⟩ (.int .i64 (Nib.fin s (Nib.att s Y)))) (w.heap.size + 1 + 1) (Nib.att s (x - 1)) (Nib.fin s (Nib.att s Y)) := Two.set1 (Two.set0 T7 _) _
      have L8 : Two ((w7.setCell ⟨w.heap.size + 1 + 1, 0, none⟩ (.int .i64 (Nib.att s (x - 1)))).setCell ⟨w.heap.size + 1 + 1, 1, none⟩ (.int .i64 (Nib.fin s (Nib.att s Y)))) w.heap.size (Nib.att s m) (Nib.fin s (Nib.att s m)) := Two.other (Two.other L7 qf _) qf _
      have Q8 : Two ((w7.setCell ⟨w.heap.size + 1 + 1, 0, none⟩ (.int .i64 (Nib.att s (x - 1)))).setCell ⟨w.heap.size + 1 + 1, 1, none⟩ (.int .i64 (Nib.fin s (Nib.att s Y)))) (w.heap.size + 1) 0 0 := Two.other (Two.other Q7 qf _) qf _
      have N8 : Two ((w7.setCell ⟨w.heap.size + 1 + 1, 0, none⟩ (.int .i64 (Nib.att s (x - 1)))).setCell ⟨w.heap.size + 1 + 1, 1, none⟩ (.int .i64 (Nib.fin s (Nib.att s Y)))) nb (Nib.att s (x - 1)) (Nib.fin s (Nib.att s (x - 1))) := Two.other (Two.other N7 qf _) qf _
      have hB8 : Below w.heap.size w ((w7.setCell ⟨w.heap.size + 1 + 1, 0, none⟩ (.int .i64 (Nib.att s (x - 1)))).setCell ⟨w.heap.size + 1 + 1, 1, none⟩ (.int .i64 (Nib.fin s (Nib.att s Y)))) := Below.setCell (Below.setCell hB7 qf _) qf _
      have x0 := T8.c0; have x1 := T8.c1
      go_wp2_with fail
      refine (HB2.out _).mono ?_
      rintro e w9 ⟨rfl, h9⟩
      obtain ⟨hc9, hf9, hz9⟩ := qb h9
      try simp at hz9
      have L9 := L8.below h9; have Q9 := Q8.below h9; have T9 := T8.below h9; have N9 := N8.below h9
      have hB9 : Below w.heap.size w w9 := hB8.trans (h9.mono hB8.size)
      have ⟨m0, m1, mz, ml⟩ := N9
      clear hc9 hf9
      go_wp2
      go_roundg (x - 1)
      case measure => omega
      case rel => exact ⟨x - 1, A2, B2, by omega, rfl, hAB2, rfl, HF2, Two.other (Two.other L9 qf _) qf _, Two.other (Two.other Q9 qf _) qf _, Two.other (Two.other T9 qf _) qf _, Two.set1 (Two.set0 N9 _) _, Below.setCell (Below.setCell hB9 qf _) qf _⟩
     ·have HEn : qH 185 #[.agg #[.int .i64 (Nib.att s (x - 1)), .int .i64 (Nib.fin s (Nib.att s (x - 1)))]] (.bool (lem s (x - 1))) := hEn
      have eY : Hid (x = X0) := by
       have := HF.out
       rw [show x = (x - 1) + 1 by omega] at this
       simp only [alU] at this
       rw [if_neg hE] at this
       rw [Hid]
       omega
      have hE2 : (lem s (x - 1) == lem s m) = false := by simp [hE]
      generalize lem s (x - 1) = e1 at *
      have HEm2 := HEm
      generalize lem s m = e2 at *
      clear HF
      go_wp2_with fail
      refine wp_region_held_drew (S := fun ww => ww.cell? ⟨nb, 0, none⟩ = some (.int .i64 (Nib.att s (x - 1))) ∧ ww.cell? ⟨nb, 1, none⟩ = some (.int .i64 (Nib.fin s (Nib.att s (x - 1)))) ∧ ww.cell? ⟨w.heap.size, 0, none⟩ = some (.int .i64 (Nib.att s m)) ∧ ww.cell? ⟨w.heap.size, 1, none⟩ = some (.int .i64 (Nib.fin s (Nib.att s m)))) qk ?_ (fun hHeld => ?_)
      ·exact qt62
      refine qT 0 ?_
      simp only [Act.put, qP]
      refine qT 1 ?_
      simp only [Act.put, qP]
      refine qT 2 ?_
      simp only [Act.put, qP]
      refine qT 4 ?_
      simp only [Act.put, qP]
      refine qR 3 fun K hK => ?_
      rw [if_pos (by rfl)]
      go_wp2_with fail
      refine (HEn.out _).mono ?_
      rintro r5 w5 ⟨rfl, h5⟩
      obtain ⟨hc5, hf5, hz5⟩ := qb h5
      (try simp at hz5)
      go_wp2_with fail
      refine hK.out _ _ ?_ (fun hHeld => ?_)
      ·exact qt49
      clear hK K
      try simp only [Act.put, qP]
      clear hc5 hf5
      refine qR 5 fun K hK => ?_
      rw [if_pos (by rfl)]
      go_wp2_with fail
      refine (HEm.out _).mono ?_
      rintro r6 w6 ⟨rfl, h6⟩
      obtain ⟨hc6, hf6, hz6⟩ := qb h6
      (try simp at hz6)
      go_wp2_with fail
      refine hK.out _ _ ?_ (fun hHeld => ?_)
      ·exact qt43
      clear hK K
      try simp only [Act.put, qP]
      clear hc6 hf6
      refine qT 6 ?_
      simp only [Act.put, qP]
      refine qT 7 ?_
      simp only [Act.put, qP]
      refine wpAnyH_done qk ?_ _
      have hB6 : Below w.heap.size w w6 := by
       repeat exact qB
      have z6 := hB6.size
      have L6 := ((L.drew).below h5).below h6
      have Q6 := ((Q.drew).below h5).below h6
      have T6 := ((T.drew).below h5).below h6
      have N6 := ((N.drew).below h5).below h6
      clear L Q T N l0 l1 ll q0 q1 qz ql t0 t1 tz tl n0 n1 nz nl hB zB h5 h6
      have ⟨q0, q1, qz, ql⟩ := Q6
      have ⟨t0, t1, tz, tl⟩ := T6
      have ⟨n0, n1, nz, nl⟩ := N6
      have eY := eY.out
      subst eY
      go_wp2
      go_round
      case rel => exact ⟨2, x, Y, by go_num, Or.inr (Or.inr ⟨rfl, rfl, rfl⟩), L6, Q6, T6, hB6⟩
      case measure => simp [intOf] <;> omega
    ·rw [decide_eq_false hc]
     have eY : x = X0 := by
      have := HF.out
      rw [show x = 0 by omega] at this
      rw [show x = 0 by omega]
      exact this
     subst eY
     go_wp2_with fail
     refine wp_region_held_drew (S := fun ww => ww.cell? ⟨w.heap.size, 0, none⟩ = some (.int .i64 (Nib.att s m))) qk ?_ (fun hHeld => ?_)
     ·exact memLater ((Below.refl _ _).drew) l0
     refine qT 0 ?_
     simp only [Act.put, qP]
     refine qT 1 ?_
     simp only [Act.put, qP]
     refine qS 2 ?_
     simp only [Act.put, qP]
     refine qS 3 ?_
     simp only [Act.put, qP]
     refine qS 4 ?_
     simp only [Act.put, qP]
     refine qS 5 ?_
     simp only [Act.put, qP]
     refine qS 6 ?_
     simp only [Act.put, qP]
     refine qT 7 ?_
     simp only [Act.put, qP]
     refine wpAnyH_done qk ?_ _
     go_wp2
     go_round
     case rel => exact ⟨2, x, Y, by go_num, Or.inr (Or.inr ⟨rfl, rfl, rfl⟩), L.drew, Q.drew, T.drew, hB.drew⟩
     case measure => simp [intOf] <;> omega
  ·have ex := ex.symm
   have ey := ey.symm
   subst ek ex ey
   go_wp2
   exact qV (.agg #[.int .i64 (Nib.att s X0), .int .i64 (Nib.fin s (Nib.att s Y))]) (by simp [results, Tryz.results262, go_sem, q0, q1, qz, ql]) rfl
end Go.Proofs.YtlendfhehhacpaaGreat
