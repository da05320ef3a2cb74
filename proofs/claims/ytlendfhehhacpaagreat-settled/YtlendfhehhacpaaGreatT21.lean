/- A part. -/
import Derived.Test.YtlendfhehhacpaaGreatT12
import Derived.Test.YtlendfhehhacpaaGreatT17
set_option linter.unusedVariables false
set_option linter.unusedSimpArgs false
set_option maxRecDepth 100000
set_option maxHeartbeats 8000000
namespace Go.Proofs.YtlendfhehhacpaaGreat
open Go.RowKit Nib Tryz
theorem sInkAhead_any (s : ByteArray) (q : Nat) (w : World) (hs : s.size ≤ 1000) (hq : q < s.size) :
  qC 283 #[.string s, .int .i64 q] w (.int .i64 (Nib.dn (bgap s) q)) := by
 generalize hX : Nib.dn (bgap s) q = X
 have HX : Hid (Nib.dn (bgap s) q = X) := hX
 clear hX
 have hq' : q ≤ s.size := by omega
 have hm := lin_lt hq'
 have HL : qH 195 #[.string s, .int .i64 q] (.agg #[.int .i64 (att s (lin s q)), .int .i64 (fin s (att s (lin s q)))]) := by
  intro ww
  have := tLine_any s q q ww hs rfl hq'
  rw [fin_eq hq', beg_eq hq'] at this
  exact this
 go_enter func283, ntmps283
 go_wp2_with fail
 go_step3
 go_wp2_with fail
 refine (HL.out _).mono ?_
 rintro e w1 ⟨rfl, h1⟩
 obtain ⟨hc1, hf1, hz1⟩ := qb h1
 try simp at hz1
 go_wp2
 go_step3
 go_wp2
 go_loopg [1, 6] (lin s q + 1) (fun g pl mo wr => (∃ j pv : Nat, j < lns s ∧ g = j + 1 ∧ pl = .int .i64 pv ∧ pv < s.size ∧ att s j ≤ pv ∧ pv ≤ fin s (att s j) ∧ Hid (Nib.dn (bgap s) pv = X) ∧ mo = .bool true ∧ Two wr w1.heap.size (att s j) (fin s (att s j)) ∧ Below w.heap.size w wr) ∨ (pl = .int .i64 (-1) ∧ Hid (X = 0) ∧ mo = .bool false ∧ Below w.heap.size w wr))
 case atStart =>
  refine Or.inl ⟨lin s q, q, hm, rfl, rfl, hq, ?_, ?_, HX, rfl, Two.new _ _ _ _, ?_⟩
  ·rw [← beg_eq hq']; exact beg_le s q
  ·rw [← fin_eq hq']; exact fin_ge s q
  ·repeat exact qB
 case round =>
  rcases hrel with ⟨j, pv, hj, hg, rfl, hps, hpa, hpf, hu, rfl, T, hB⟩ | ⟨rfl, HZ, rfl, hB⟩
  ·have t0 := (T).c0
   have t1 := (T).c1
   have tz := (T).fz
   have tl := (T).lt
   have HE1 : qH 185 #[.agg #[.int .i64 (att s j), .int .i64 (fin s (att s j))]] (.bool (emp s (att s j))) := by
    intro ww; rw [emp_att hj]; exact tIsEmpty_any _ _ ww
   cases hem : emp s (att s j) with
   | true =>
    rw [hem] at HE1
    have HZ : Hid (X = pv) := by
     have h9 := hem
     rw [emp_att hj] at h9
     simp only [beq_iff_eq] at h9
     have e : pv = att s j := by omega
     rw [Hid, ← hu.out, bgap_emp (by rw [e]; exact hem)]
    clear hem hu
    go_wp2_with fail
    refine (HE1.out _).mono ?_
    rintro r2 w2 ⟨rfl, h2⟩
    obtain ⟨hc2, hf2, hz2⟩ := qb h2
    (try simp at hz2)
    have T2 : Two w2 (w1.heap.size) (att s j) (fin s (att s j)) := qTw
    have ⟨T2_0, T2_1, T2_z, T2_l⟩ := T2
    go_wp2
    (try rw [Exit.noGoto_ret])
    all_goals
     first
      | (exact qV (.int .i64 pv) (by simp [results, results283, go_sem]) (ret_int (by rw [HZ.out])))
   | false =>
    rw [hem] at HE1
    have hlin := emp_att_ne hj hem
    have HEM : Hid (emp s (att s j) = false) := hem
    clear hem
    go_wp2_with fail
    refine (HE1.out _).mono ?_
    rintro r2 w2 ⟨rfl, h2⟩
    obtain ⟨hc2, hf2, hz2⟩ := qb h2
    (try simp at hz2)
    have T2 : Two w2 (w1.heap.size) (att s j) (fin s (att s j)) := qTw
    have ⟨T2_0, T2_1, T2_z, T2_l⟩ := T2
    clear hc2 hf2
    go_wp2
    go_loopg [1] (pv + 1 - att s j) (fun g2 pl wx => ∃ k : Nat, att s j ≤ k ∧ k ≤ pv + 1 ∧ g2 = k - att s j ∧ pl = .int .i64 ((k : Int) - 1) ∧ Hid (Nib.dn (bgap s) (k - 1) = X) ∧ wx = w2)
    case atStart => exact ⟨pv + 1, by omega, Nat.le_refl _, rfl, by go_num, hu, rfl⟩
    case round =>
     clear hu
     obtain ⟨k, hk1, hk2, hk3, rfl, hu, rfl⟩ := hrel
     by_cases hlt : att s j < k
     ·obtain ⟨i, rfl⟩ : ∃ i, k = i + 1 := ⟨k - 1, by omega⟩
      have e1 : ((i + 1 : Nat) : Int) - 1 = (i : Int) := by omega
      rw [e1]
      have his : i < s.size := by omega
      have hei := emp_in hj (show att s j ≤ i by omega) (show i ≤ fin s (att s j) by omega) hlin
      have HI : Hid (∀ ww, Calls Tryz.prog 247 #[.string s, .int .i64 i] ww fun e w' => e = .returned (.bool (!spc (bt s i))) ∧ w' = ww) := by
       intro ww
       have := sHasInk_any s i i ww hs rfl qo
       rw [decide_eq_true his, Bool.true_and] at this
       exact this
      have hle' : ((att s j : Nat) : Int) ≤ (i : Int) := by omega
      cases hsp : spc (bt s i) with
      | false =>
       have HS : Hid (X = i) := by
        rw [Hid, ← hu.out, Nat.add_sub_cancel, bgap_ink hsp]
       rw [hsp] at HI
       clear hsp hu e1 hei
       go_wp2_with fail
       refine (HI.out _).mono ?_
       rintro e w' ⟨rfl, rfl⟩
       go_wp2
       (try rw [Exit.noGoto_ret])
       all_goals
        first
         | (exact qV (.int .i64 i) (by simp [results, results283, go_sem]) (ret_int (by rw [HS.out])))
      | true =>
       have HS : Hid (Nib.dn (bgap s) (i - 1) = X) := by
        rw [Hid, ← hu.out, Nat.add_sub_cancel, bgap_go hsp hei]
       rw [hsp] at HI
       clear hsp hu e1 hei
       go_wp2_with fail
       refine (HI.out _).mono ?_
       rintro e w' ⟨rfl, rfl⟩
       go_wp2
       go_roundg (i - att s j)
       case measure => omega
       case rel => exact ⟨i, by omega, by omega, rfl, by go_num, HS, rfl⟩
     ·have ek : k = att s j := by omega
      subst ek
      have hge : ¬ ((att s j : Nat) : Int) ≤ ((att s j : Nat) : Int) - 1 := by omega
      by_cases h0 : 0 < j
      ·have hbes : fin s (att s (j - 1)) + 1 = att s j := by
        obtain ⟨i, rfl⟩ : ∃ i, j = i + 1 := ⟨j - 1, by omega⟩
        rfl
       have HBs : qH 223 #[.string s, .agg #[.int .i64 (att s j), .int .i64 (fin s (att s j))], .int .i64 (-1)] (.tuple #[.agg #[.int .i64 (att s (j - 1)), .int .i64 (fin s (att s (j - 1)))], .bool true]) := fun ww => tBeside_up s _ _ _ j ww hs rfl hj rfl h0
       have HQ : Hid (fin s (att s (j - 1)) + 1 = att s j) := hbes
       clear hbes
       go_wp2_with fail
       refine (HBs.out _).mono ?_
       rintro r3 w3 ⟨rfl, h3⟩
       obtain ⟨hc3, hf3, hz3⟩ := qb h3
       (try simp at hz3)
       have T23 : Two w3 (w1.heap.size) (att s j) (fin s (att s j)) := qTw
       have ⟨T23_0, T23_1, T23_z, T23_l⟩ := T23
       clear hc3 hf3
       go_wp2
       have hq9 := HQ.out
       go_roundg j
       case measure => omega
       case rel =>
        refine Or.inl ⟨j - 1, att s j - 1, by omega, by omega, by congr 1; omega, by omega, ?_, by omega, hu, rfl, Two.set1 (Two.set0 T23 _) _, ?_⟩
        ·have := fin_ge s (att s (j - 1)); omega
        ·repeat exact qB
      ·have e0 : j = 0 := by omega
       have ea : att s j = 0 := by rw [e0]; rfl
       have HZ : Hid (X = 0) := by rw [Hid, ← hu.out, ea]; rfl
       have HBs : qH 223 #[.string s, .agg #[.int .i64 (att s j), .int .i64 (fin s (att s j))], .int .i64 (-1)] (.tuple #[.agg #[.int .i64 (0), .int .i64 (0)], .bool false]) := fun ww => tBeside_none s _ _ _ ww hs (Or.inr rfl) (fun h => by omega) (fun _ => by omega)
       have HA : Hid (att s j = 0) := ea
       clear ea e0
       go_wp2_with fail
       refine (HBs.out _).mono ?_
       rintro r3 w3 ⟨rfl, h3⟩
       obtain ⟨hc3, hf3, hz3⟩ := qb h3
       (try simp at hz3)
       have T23 : Two w3 (w1.heap.size) (att s j) (fin s (att s j)) := qTw
       have ⟨T23_0, T23_1, T23_z, T23_l⟩ := T23
       clear hc3 hf3
       go_wp2
       have ha9 := HA.out
       go_roundg 0
       case measure => omega
       case rel =>
        refine Or.inr ⟨by congr 1; omega, HZ, rfl, ?_⟩
        repeat exact qB
  ·go_wp2
   (try rw [Exit.noGoto_ret])
   all_goals
    first
     | (exact qV (.int .i64 0) (by simp [results, results283, go_sem]) (ret_int (by rw [HZ.out]; rfl)))
theorem bState (b r d : Nat) (tv : Value) (dg : ByteArray) (p : Pg) (w : World) (hb : BdAt w b r d tv dg) (h : RdAt w r d p) :
  qC 31 #[.pointer (some ⟨b, 0, none⟩)] w (.agg #[.string p.t, .int .i64 (p.pl : Nat), .int .i64 (p.anchor : Nat), .int .i64 p.mode, .bool (waits p)]) := by
 have HW : Hid (∀ ww, RdAt ww r d p → qC 39 #[.pointer (some ⟨r, 1, none⟩)] ww (.bool (waits p))) := fun ww hh => mWaiting r d p ww hh
 generalize waits p = N at *
 have H := h
 obtain ⟨c0, c1, c2, c3, c4, c5, c6, c7, c8, c9, fz, lt⟩ := h.dk
 have b0 := hb.c0
 have r0 := h.bg.c0
 have bl := hb.lt
 have rl := h.bg.lt
 clear c4 c5 c6 c7 c8 c9 h hb
 have l1 : d < w.heap.size + 1 := by omega
 have l2 : r < w.heap.size + 1 := by omega
 have l3 : b < w.heap.size + 1 := by omega
 have n1 : ¬ w.heap.size = d := by omega
 have n2 : ¬ d = w.heap.size := by omega
 have n3 : ¬ w.heap.size = r := by omega
 have n4 : ¬ r = w.heap.size := by omega
 have n5 : ¬ w.heap.size = b := by omega
 have n6 : ¬ b = w.heap.size := by omega
 go_enter func31, ntmps31
 go_wp2_with fail
 go_region_held3 (fun ww => ww.cell? ⟨b, 0, none⟩ = some (.pointer (some ⟨r, 0, none⟩)) ∧ ww.cell? ⟨r, 0, none⟩ = some (.pointer (some ⟨d, 0, none⟩)) ∧ ww.cell? ⟨d, 0, none⟩ = some (.string p.t) ∧ ww.cell? ⟨d, 1, none⟩ = some (.int .i64 (p.pl : Nat)) ∧ ww.cell? ⟨d, 2, none⟩ = some (.int .i64 (p.anchor : Nat)) ∧ ww.cell? ⟨d, 3, none⟩ = some (.int .i64 p.mode)) (exact qK) ((go_at_call 39; refine Calls.mono (HW.out _ qRd) ?_; rintro r1 w1 ⟨rfl, h1⟩; have hz1 := h1.size; (try simp at hz1); (try have ⟨hl1_0, hk1_0⟩ := qL b w1.heap.size); (try have ⟨hl1_1, hk1_1⟩ := qL d w1.heap.size); (try have ⟨hl1_2, hk1_2⟩ := qL r w1.heap.size); obtain ⟨hc1, hf1⟩ := bcell h1; have hn1_0 := (hc1 (w.heap.size) 0 qO).trans (show _ = some (.string ⟨#[]⟩) by simp); have hn1_1 := (hc1 (w.heap.size) 1 qO).trans (show _ = some (.int .i64 0) by simp); have hn1_2 := (hc1 (w.heap.size) 2 qO).trans (show _ = some (.int .i64 0) by simp); have hn1_3 := (hc1 (w.heap.size) 3 qO).trans (show _ = some (.int .i64 0) by simp); have hn1_4 := (hc1 (w.heap.size) 4 qO).trans (show _ = some (.bool false) by simp); have hq1 := fun o => (hf1 (w.heap.size) o qO).trans (show _ = false by simp); have hg1 : w.heap.size < w1.heap.size := qo; clear hc1 hf1))
 go_wp2
 exact qV (.agg #[.string p.t, .int .i64 (p.pl : Nat), .int .i64 (p.anchor : Nat), .int .i64 p.mode, .bool N]) (by simp [results, results31, go_sem, hn1_0, hn1_1, hn1_2, hn1_3, hn1_4]) rfl
abbrev HasB (A : World → Prop) (b r d : Nat) (p : Pg) : Prop := ∀ w, A w → (∃ tv dg, BdAt w b r d tv dg) ∧ RdAt w r d p
abbrev GivesT (f : Nat) (args : Array Value) (A B : World → Prop) : Prop := Hid (∀ ww, A ww → Calls Tryz.prog f args ww fun e w' => e = .returned (.tuple #[]) ∧ B w')
theorem press_go (b r d : Nat) (p : Pg) (key : Int) (A B C : World → Prop) (w : World) (hA : A w) (pA : HasB A b r d p) (pB : ∀ ww, B ww → ∃ tv dg, BdAt ww b r d tv dg)
  (HT : Hid (∀ ww, A ww → Calls Tryz.prog 46 #[.pointer (some ⟨b, 0, none⟩), .int .u8 key] ww fun e w' => e = .returned (.int .i64 0) ∧ B w'))
  (HK : GivesT 47 #[.pointer (some ⟨b, 1, none⟩), .int .u8 key, .int .i64 p.mode] B C) :
  Calls Tryz.prog 38 #[.pointer (some ⟨b, 0, none⟩), .int .u8 key] w fun e w' => e = .returned (.int .i64 0) ∧ C w' := by
 obtain ⟨⟨tv, dg, HB⟩, HR⟩ := pA w hA
 have b0 := HB.c0
 have r0 := HR.bg.c0
 have d3 := HR.dk.c3
 have bl := HB.lt
 have rl := HR.bg.lt
 have dl := HR.dk.lt
 have pB' : Hid (∀ ww, B ww → ∃ tv dg, BdAt ww b r d tv dg) := pB
 clear pB pA
 go_enter func38, ntmps38
 go_wp2_with fail
 refine Calls.mono (HT.out _ hA) ?_
 rintro e w1 ⟨rfl, h1⟩
 obtain ⟨tv1, dg1, B1⟩ := pB'.out w1 h1
 have bl1 := B1.lt
 go_wp2_with fail
 refine Calls.mono (HK.out _ h1) ?_
 rintro e w2 ⟨rfl, h2⟩
 have HC : Hid (C w2) := h2
 clear h1 h2
 go_wp2
 go_ret
 exact ⟨rfl, HC.out⟩
theorem press_ins (b r d : Nat) (p p2 : Pg) (key O : Int) (A B C : World → Prop) (w : World) (hA : A w) (pA : HasB A b r d p) (pB : ∀ ww, B ww → ∃ tv dg, BdAt ww b r d tv dg) (pC : HasB C b r d p2) (hO : ¬ O = 0) (hm : p2.mode = 1)
  (HT : Hid (∀ ww, A ww → Calls Tryz.prog 46 #[.pointer (some ⟨b, 0, none⟩), .int .u8 key] ww fun e w' => e = .returned (.int .i64 O) ∧ B w'))
  (HK : GivesT 47 #[.pointer (some ⟨b, 1, none⟩), .int .u8 key, .int .i64 p.mode] B C) :
  Calls Tryz.prog 38 #[.pointer (some ⟨b, 0, none⟩), .int .u8 key] w fun e w' => e = .returned (.int .i64 O) ∧ C w' := by
 obtain ⟨⟨tv, dg, HB⟩, HR⟩ := pA w hA
 have b0 := HB.c0
 have r0 := HR.bg.c0
 have d3 := HR.dk.c3
 have bl := HB.lt
 have rl := HR.bg.lt
 have dl := HR.dk.lt
 have pB' : Hid (∀ ww, B ww → ∃ tv dg, BdAt ww b r d tv dg) := pB
 have pC' : Hid (HasB C b r d p2) := pC
 have hO' : (O == 0) = false := by simp [hO]
 have hO2 : (O != 0) = true := by simp [hO]
 have hm' : (p2.mode != 1) = false := by simp [hm]
 have hm2 : (p2.mode == 1) = true := by simp [hm]
 clear pB pA pC hO hm
 go_enter func38, ntmps38
 go_wp2_with fail
 refine Calls.mono (HT.out _ hA) ?_
 rintro e w1 ⟨rfl, h1⟩
 obtain ⟨tv1, dg1, B1⟩ := pB'.out w1 h1
 have bl1 := B1.lt
 go_wp2_with fail
 refine Calls.mono (HK.out _ h1) ?_
 rintro e w2 ⟨rfl, h2⟩
 obtain ⟨⟨tv2, dg2, B2⟩, R2⟩ := pC'.out w2 h2
 have e0 := B2.c0
 have e1 := R2.bg.c0
 have e2 := R2.dk.c3
 have HC : Hid (C w2) := h2
 clear h1 h2
 go_wp2
 go_ret
 exact ⟨rfl, HC.out⟩
