/- A part. -/
import Derived.Test.YtlendfhehhacpaaGreatU33
set_option linter.unusedVariables false
set_option linter.unusedSimpArgs false
set_option maxRecDepth 100000
set_option maxHeartbeats 8000000
namespace Go.Proofs.YtlendfhehhacpaaGreat
open Go.RowKit Nib Tryz
theorem sInkAhead_any (s : ByteArray) (q : Nat) (w : World) (hs : s.size ≤ 1000) (hq : q < s.size) :
  qC 283 #[.string s, .int .i64 q] w (.int .i64 (Nib.dn (bgap s) q)) := by
 generalize hX : Nib.dn (bgap s) q = X
 have HX : Hid (Nib.dn (bgap s) q = X) := hX
 clear hX
 have hq' : q ≤ s.size := by omega
 have hm := lin_lt hq'
 have HL : qH 195 #[.string s, .int .i64 q] (.agg #[.int .i64 (att s (lin s q)), .int .i64 (fin s (att s (lin s q)))]) := by
  intro ww
  have := tLine_any s q q ww hs rfl hq'
  rw [fin_eq hq', beg_eq hq'] at this
  exact this
 go_enter func283, ntmps283
 go_wp2_with fail
 go_step3
 go_wp2_with fail
 refine (HL.out _).mono ?_
 rintro e w1 ⟨rfl, h1⟩
 obtain ⟨hc1, hf1, hz1⟩ := qb h1
 try simp at hz1
 go_wp2
 go_step3
 go_wp2
 go_loopg [1, 6] (lin s q + 1) (fun g pl mo wr => (∃ j pv : Nat, j < lns s ∧ g = j + 1 ∧ pl = .int .i64 pv ∧ pv < s.size ∧ att s j ≤ pv ∧ pv ≤ fin s (att s j) ∧ Hid (Nib.dn (bgap s) pv = X) ∧ mo = .bool true ∧ Two wr w1.heap.size (att s j) (fin s (att s j)) ∧ Below w.heap.size w wr) ∨ (pl = .int .i64 (-1) ∧ Hid (X = 0) ∧ mo = .bool false ∧ Below w.heap.size w wr))
 case atStart =>
  refine Or.inl ⟨lin s q, q, hm, rfl, rfl, hq, ?_, ?_, HX, rfl, Two.new _ _ _ _, ?_⟩
  ·rw [← beg_eq hq']; exact beg_le s q
  ·rw [← fin_eq hq']; exact fin_ge s q
  ·repeat exact qB
 case round =>
  rcases hrel with ⟨j, pv, hj, hg, rfl, hps, hpa, hpf, hu, rfl, T, hB⟩ | ⟨rfl, HZ, rfl, hB⟩
  ·have t0 := (T).c0
   have t1 := (T).c1
   have tz := (T).fz
   have tl := (T).lt
   have HE1 : qH 185 #[.agg #[.int .i64 (att s j), .int .i64 (fin s (att s j))]] (.bool (emp s (att s j))) := by
    intro ww; rw [emp_att hj]; exact tIsEmpty_any _ _ ww
   cases hem : emp s (att s j) with
   | true =>
    rw [hem] at HE1
    have HZ : Hid (X = pv) := by
     have h9 := hem
     rw [emp_att hj] at h9
     simp only [beq_iff_eq] at h9
     have e : pv = att s j := by omega
     rw [Hid, ← hu.out, bgap_emp (by rw [e]; exact hem)]
    clear hem hu
    go_wp2_with fail
    refine (HE1.out _).mono ?_
    rintro r2 w2 ⟨rfl, h2⟩
    obtain ⟨hc2, hf2, hz2⟩ := qb h2
    (try simp at hz2)
    have T2 : Two w2 (w1.heap.size) (att s j) (fin s (att s j)) := qTw
    have ⟨T2_0, T2_1, T2_z, T2_l⟩ := T2
    go_wp2
    (try rw [Exit.noGoto_ret])
    all_goals
     first
      | (exact qV (.int .i64 pv) (by simp [results, results283, go_sem]) (ret_int (by rw [HZ.out])))
   | false =>
    rw [hem] at HE1
    have hlin := emp_att_ne hj hem
    have HEM : Hid (emp s (att s j) = false) := hem
    clear hem
    go_wp2_with fail
    refine (HE1.out _).mono ?_
    rintro r2 w2 ⟨rfl, h2⟩
    obtain ⟨hc2, hf2, hz2⟩ := qb h2
    (try simp at hz2)
    have T2 : Two w2 (w1.heap.size) (att s j) (fin s (att s j)) := qTw
    have ⟨T2_0, T2_1, T2_z, T2_l⟩ := T2
    clear hc2 hf2
    go_wp2
    go_loopg [1] (pv + 1 - att s j) (fun g2 pl wx => ∃ k : Nat, att s j ≤ k ∧ k ≤ pv + 1 ∧ g2 = k - att s j ∧ pl = .int .i64 ((k : Int) - 1) ∧ Hid (Nib.dn (bgap s) (k - 1) = X) ∧ wx = w2)
    case atStart => exact ⟨pv + 1, by omega, Nat.le_refl _, rfl, by go_num, hu, rfl⟩
    case round =>
     clear hu
     obtain ⟨k, hk1, hk2, hk3, rfl, hu, rfl⟩ := hrel
     by_cases hlt : att s j < k
     ·obtain ⟨i, rfl⟩ : ∃ i, k = i + 1 := ⟨k - 1, by omega⟩
      have e1 : ((i + 1 : Nat) : Int) - 1 = (i : Int) := by omega
      rw [e1]
      have his : i < s.size := by omega
      have hei := emp_in hj (show att s j ≤ i by omega) (show i ≤ fin s (att s j) by omega) hlin
      have HI : Hid (∀ ww, Calls Tryz.prog 247 #[.string s, .int .i64 i] ww fun e w' => e = .returned (.bool (!spc (bt s i))) ∧ w' = ww) := by
       intro ww
       have := sHasInk_any s i i ww hs rfl qo
       rw [decide_eq_true his, Bool.true_and] at this
       exact this
      have hle' : ((att s j : Nat) : Int) ≤ (i : Int) := by omega
      cases hsp : spc (bt s i) with
      | false =>
       have HS : Hid (X = i) := by
        rw [Hid, ← hu.out, Nat.add_sub_cancel, bgap_ink hsp]
       rw [hsp] at HI
       clear hsp hu e1 hei
       go_wp2_with fail
       refine (HI.out _).mono ?_
       rintro e w' ⟨rfl, rfl⟩
       go_wp2
       (try rw [Exit.noGoto_ret])
       all_goals
        first
         | (exact qV (.int .i64 i) (by simp [results, results283, go_sem]) (ret_int (by rw [HS.out])))
      | true =>
       have HS : Hid (Nib.dn (bgap s) (i - 1) = X) := by
        rw [Hid, ← hu.out, Nat.add_sub_cancel, bgap_go hsp hei]
       rw [hsp] at HI
       clear hsp hu e1 hei
       go_wp2_with fail
       refine (HI.out _).mono ?_
       rintro e w' ⟨rfl, rfl⟩
       go_wp2
       go_roundg (i - att s j)
       case measure => omega
       case rel => exact ⟨i, by omega, by omega, rfl, by go_num, HS, rfl⟩
     ·have ek : k = att s j := by omega
      subst ek
      have hge : ¬ ((att s j : Nat) : Int) ≤ ((att s j : Nat) : Int) - 1 := by omega
      by_cases h0 : 0 < j
      ·have hbes : fin s (att s (j - 1)) + 1 = att s j := by
        obtain ⟨i, rfl⟩ : ∃ i, j = i + 1 := ⟨j - 1, by omega⟩
        rfl
       have HBs : qH 223 #[.string s, .agg #[.int .i64 (att s j), .int .i64 (fin s (att s j))], .int .i64 (-1)] (.tuple #[.agg #[.int .i64 (att s (j - 1)), .int .i64 (fin s (att s (j - 1)))], .bool true]) := fun ww => tBeside_up s _ _ _ j ww hs rfl hj rfl h0
       have HQ : Hid (fin s (att s (j - 1)) + 1 = att s j) := hbes
       clear hbes
       go_wp2_with fail
       refine (HBs.out _).mono ?_
       rintro r3 w3 ⟨rfl, h3⟩
       obtain ⟨hc3, hf3, hz3⟩ := qb h3
       (try simp at hz3)
       have T23 : Two w3 (w1.heap.size) (att s j) (fin s (att s j)) := qTw
       have ⟨T23_0, T23_1, T23_z, T23_l⟩ := T23
       clear hc3 hf3
       go_wp2
       have hq9 := HQ.out
       go_roundg j
       case measure => omega
       case rel =>
        refine Or.inl ⟨j - 1, att s j - 1, by omega, by omega, by congr 1; omega, by omega, ?_, by omega, hu, rfl, Two.set1 (Two.set0 T23 _) _, ?_⟩
        ·have := fin_ge s (att s (j - 1)); omega
        ·repeat exact qB
      ·have e0 : j = 0 := by omega
       have ea : att s j = 0 := by rw [e0]; rfl
       have HZ : Hid (X = 0) := by rw [Hid, ← hu.out, ea]; rfl
       have HBs : qH 223 #[.string s, .agg #[.int .i64 (att s j), .int .i64 (fin s (att s j))], .int .i64 (-1)] (.tuple #[.agg #[.int .i64 (0), .int .i64 (0)], .bool false]) := fun ww => tBeside_none s _ _ _ ww hs (Or.inr rfl) (fun h => by omega) (fun _ => by omega)
       have HA : Hid (att s j = 0) := ea
       clear ea e0
       go_wp2_with fail
       refine (HBs.out _).mono ?_
       rintro r3 w3 ⟨rfl, h3⟩
       obtain ⟨hc3, hf3, hz3⟩ := qb h3
       (try simp at hz3)
       have T23 : Two w3 (w1.heap.size) (att s j) (fin s (att s j)) := qTw
       have ⟨T23_0, T23_1, T23_z, T23_l⟩ := T23
       clear hc3 hf3
       go_wp2
       have ha9 := HA.out
       go_roundg 0
       case measure => omega
       case rel =>
        refine Or.inr ⟨by congr 1; omega, HZ, rfl, ?_⟩
        repeat exact qB
  ·go_wp2
   (try rw [Exit.noGoto_ret])
   all_goals
    first
     | (exact qV (.int .i64 0) (by simp [results, results283, go_sem]) (ret_int (by rw [HZ.out]; rfl)))
theorem sStepAhead_any (s : ByteArray) (r : Nat) (g : Bool) (w : World) (hs : s.size ≤ 1000) (hr : r ≤ s.size) :
  qC 251 #[.string s, .int .i64 r, .bool g] w (.int .i64 (bstep s g r)) := by
 by_cases he : r = 0
 ·subst he
  have e : bstep s g 0 = 0 := by unfold bstep; rw [if_pos rfl]
  rw [e]
  clear e
  go_enter func251, ntmps251
  go_wp2
  all_goals
   first
    | (exact qV (.int .i64 0) (by simp [results, results251, go_sem]) rfl)
 ·have HI : qH 283 #[.string s, .int .i64 ((r : Int) - 1)] (.int .i64 (bto s r : Nat)) := by
   intro ww
   have := sInkAhead_any s (r - 1) ww hs qo
   rw [show ((r - 1 : Nat) : Int) = (r : Int) - 1 by omega] at this
   exact this
  have hb := bto_le s r
  have hne : ((r : Int) == 0) = false := by simp; omega
  rw [bstep_run qo hr]
  by_cases h10 : bt s (bto s r) = 10
  ·rw [if_pos h10]
   generalize bto s r = B at *
   have HR : qH 256 #[.string s, .int .i64 B, .bool g] (.agg #[.int .i64 (B), .int .i64 (B)]) := fun ww => tRun_none s B B g ww hs rfl qo (fun _ => h10)
   clear h10
   have hx := ix0 B B
   go_enter func251, ntmps251
   go_wp2_with fail
   refine (HI.out _).mono ?_
   rintro e w1 ⟨rfl, h1⟩
   obtain ⟨hc1, hf1, hz1⟩ := qb h1
   try simp at hz1
   go_wp2_with fail
   refine (HR.out _).mono ?_
   rintro e w2 ⟨rfl, h2⟩
   obtain ⟨hc2, hf2, hz2⟩ := qb h2
   try simp at hz2
   go_wp2
   all_goals
    first
     | (exact qV (.int .i64 B) (by simp [results, results251, go_sem]) rfl)
  ·rw [if_neg h10]
   generalize bto s r = B at *
   have HR : qH 256 #[.string s, .int .i64 B, .bool g] (.agg #[.int .i64 (runB s B g), .int .i64 (wrun s B g)]) := fun ww => tRun_any s B B g ww hs rfl qo h10
   clear h10
   have hx := ix0 (runB s B g) (wrun s B g)
   generalize runB s B g = C at *
   generalize wrun s B g = D at *
   go_enter func251, ntmps251
   go_wp2_with fail
   refine (HI.out _).mono ?_
   rintro e w1 ⟨rfl, h1⟩
   obtain ⟨hc1, hf1, hz1⟩ := qb h1
   try simp at hz1
   go_wp2_with fail
   refine (HR.out _).mono ?_
   rintro e w2 ⟨rfl, h2⟩
   obtain ⟨hc2, hf2, hz2⟩ := qb h2
   try simp at hz2
   go_wp2
   all_goals
    first
     | (exact qV (.int .i64 C) (by simp [results, results251, go_sem]) rfl)
theorem sToAhead_any (s : ByteArray) (p n : Nat) (v c g : Bool) (w : World) (hs : s.size ≤ 1000) (hp : p ≤ s.size) (hn : n ≤ 99) :
  qC 209 #[.agg #[.string s, .int .i64 (p), .int .i64 (n), .bool v, .bool c], .bool g] w (.tuple #[.agg #[.int .i64 (wayX (wayB s p (max n 1) g)), .int .i64 (wayK (wayB s p (max n 1) g))], .bool (wayZ (wayB s p (max n 1) g))]) := by
 have HP : Hid (∀ (q : Nat), q ≤ s.size → ∀ ww, qC 251 #[.string s, .int .i64 q, .bool g] ww (.int .i64 (bstep s g q))) := fun q hq ww => sStepAhead_any s q g ww hs hq
 have HN : qH 241 #[.agg #[.string s, .int .i64 (p), .int .i64 (n), .bool v, .bool c]] (.int .i64 ((max n 1 : Nat) : Int)) := by
  exact qt26
 have hN1 : 1 ≤ max n 1 := by omega
 have hN2 : max n 1 ≤ 99 := by omega
 generalize max n 1 = N at *
 have HU : qH 240 #[.agg #[.string s, .int .i64 (p), .int .i64 (n), .bool v, .bool c], .int .i64 (itr (bstep s g) N p : Nat), .int .i64 0] (.tuple #[.agg #[.int .i64 (wayX (wayB s p N g)), .int .i64 (wayK (wayB s p N g))], .bool (wayZ (wayB s p N g))]) := by
  intro ww
  refine sUnless_way s p n _ 0 v c ww ?_
  exact ⟨wayB_eq s p N g hN1, fun _ => ⟨rfl, rfl⟩⟩
 generalize wayB s p N g = R at *
 go_enter func209, ntmps209
 have F : Five ((w.alloc (.cells #[.string s, .int .i64 (p), .int .i64 (n), .bool v, .bool c] 206)).alloc (.cells #[.int .i64 0, .int .i64 0] 202)) w.heap.size s p n v c := Five.alloc (Five.new _ _ _ _ _ _ _) _
 have RB : Two ((w.alloc (.cells #[.string s, .int .i64 (p), .int .i64 (n), .bool v, .bool c] 206)).alloc (.cells #[.int .i64 0, .int .i64 0] 202)) (w.heap.size + 1) 0 0 := qN
 go_wp2_with fail
 refine (HN.out _).mono ?_
 rintro r1 w1 ⟨rfl, h1⟩
 obtain ⟨hc1, hf1, hz1⟩ := qb h1
 (try simp at hz1)
 have F1 : Five w1 (w.heap.size) s p n v c := qF
 have ⟨F1_0, F1_1, F1_2, F1_3, F1_4, F1_z, F1_l⟩ := F1
 have RB1 : Two w1 (w.heap.size + 1) (0) (0) := qTw
 have ⟨RB1_0, RB1_1, RB1_z, RB1_l⟩ := RB1
 go_wp2
 go_loopw [6, 11] (fun q i wr => ∃ k : Nat, k ≤ N ∧ q = .int .i64 (itr (bstep s g) k p : Nat) ∧ i = .int .i64 k ∧ Five wr w.heap.size s p n v c ∧ Two wr (w.heap.size + 1) 0 0 ∧ Below w.heap.size w wr) (fun _ i _ => N - (intOf i).toNat)
 case atStart =>
  refine ⟨0, by omega, rfl, rfl, F1, RB1, ?_⟩
  repeat exact qB
 case round =>
  clear F RB h1 hc1 hf1 F1_0 F1_1 F1_2 F1_3 F1_4 F1_z F1_l RB1_0 RB1_1 RB1_z RB1_l
  obtain ⟨k, hk, rfl, rfl, F, RB, hB⟩ := hrel
  have hq : itr (bstep s g) k p ≤ s.size := Nat.le_trans (itr_b_le k) hp
  have ⟨f0, f1, f2, f3, f4, fz, fl⟩ := F
  have r0 := (RB).c0
  have r1 := (RB).c1
  have rz := (RB).fz
  have rl := (RB).lt
  have hzz := hB.size
  by_cases hlt : k < N
  ·have HS : qH 251 #[.string s, .int .i64 (itr (bstep s g) k p : Nat), .bool g] (.int .i64 (itr (bstep s g) (k + 1) p : Nat)) := fun ww => HP.out _ hq ww
   generalize hA : itr (bstep s g) (k + 1) p = A at *
   exact qt21
  ·have ek : k = N := by omega
   subst ek
   generalize itr (bstep s g) k p = A at *
   go_wp2_with fail
   refine (HU.out _).mono ?_
   rintro r2 w2 ⟨rfl, h2⟩
   obtain ⟨hc2, hf2, hz2⟩ := qb h2
   (try simp at hz2)
   have RB2 : Two w2 (w.heap.size + 1) (0) (0) := qTw
   have ⟨RB2_0, RB2_1, RB2_z, RB2_l⟩ := RB2
   go_wp2
   all_goals
    first
     | (exact qV (.tuple #[.agg #[.int .i64 (wayX (R)), .int .i64 (wayK (R))], .bool (wayZ (R))]) (by simp [results, results209, go_sem, RB2_0, RB2_1, RB2_z, RB2_l]) rfl)
theorem sWordEnd_any (s : ByteArray) (r : Nat) (g : Bool) (w : World) (hs : s.size ≤ 1000) (hr : r ≤ s.size) :
  qC 252 #[.string s, .int .i64 r, .bool g] w (.int .i64 (wes s g r)) := by
 by_cases he : r = s.size
 ·subst he
  rw [wes_end]
  go_enter func252, ntmps252
  go_wp2_with fail
  refine (tEnd_any s _).mono ?_
  rintro e w' ⟨rfl, rfl⟩
  go_wp2
  all_goals
   first
    | (exact qV (.int .i64 s.size) (by simp [results, results252, go_sem]) rfl)
 ·have hlt : r < s.size := by omega
  have HI : qH 282 #[.string s, .int .i64 ((r : Int) + 1), .bool false] (.int .i64 (Nib.up (Nib.sp s) s.size (r + 1) : Nat)) := by
   intro ww
   refine sNextInk_any s (r + 1) false (Nib.sp s) ww hs qo ?_ ?_ ?_
   ·intro i h; exact h
   ·intro i _ _ h _; exact h
   ·intro h; exact absurd h qi
  have hle : Nib.up (Nib.sp s) s.size (r + 1) ≤ s.size := up_le qo
  rw [wes_eq hlt]
  have hne : ((r : Int) == (s.size : Int)) = false := by simp; omega
  clear he
  by_cases hq : Nib.up (Nib.sp s) s.size (r + 1) = s.size
  ·rw [if_pos hq]
   rw [hq] at HI
   clear hq hle
   go_enter func252, ntmps252
   go_wp2_with fail
   refine (tEnd_any s _).mono ?_
   rintro e w' ⟨rfl, rfl⟩
   go_wp2_with fail
   refine (HI.out _).mono ?_
   rintro e w1 ⟨rfl, h1⟩
   obtain ⟨hc1, hf1, hz1⟩ := qb h1
   try simp at hz1
   go_wp2_with fail
   refine (tEnd_any s _).mono ?_
   rintro e w' ⟨rfl, rfl⟩
   go_wp2
   all_goals
    first
     | (exact qV (.int .i64 r) (by simp [results, results252, go_sem]) rfl)
  ·rw [if_neg hq]
   have hql : Nib.up (Nib.sp s) s.size (r + 1) < s.size := by omega
   have hsp : Nib.sp s (Nib.up (Nib.sp s) s.size (r + 1)) = false := up_end hql
   generalize Nib.up (Nib.sp s) s.size (r + 1) = q at *
   have hnl : bt s q ≠ 10 := by have := spc_nl_f (s := s) (i := q) hsp; unfold Nib.nl at this; simpa using this
   have HR : qH 256 #[.string s, .int .i64 q, .bool g] (.agg #[.int .i64 (runB s q g), .int .i64 (wrun s q g)]) := fun ww => tRun_any s q q g ww hs rfl hql hnl
   have hgt := wrun_gt (g := g) hql
   have hwl := wrun_le (g := g) (show q ≤ s.size by omega)
   have hx := ix1 (runB s q g) (wrun s q g)
   clear hsp hnl
   generalize runB s q g = A at *
   generalize wrun s q g = B at *
   have hne2 : ((q : Int) == (s.size : Int)) = false := by simp; omega
   go_enter func252, ntmps252
   go_wp2_with fail
   refine (tEnd_any s _).mono ?_
   rintro e w' ⟨rfl, rfl⟩
   go_wp2_with fail
   refine (HI.out _).mono ?_
   rintro e w1 ⟨rfl, h1⟩
   obtain ⟨hc1, hf1, hz1⟩ := qb h1
   try simp at hz1
   go_wp2_with fail
   refine (tEnd_any s _).mono ?_
   rintro e w' ⟨rfl, rfl⟩
   go_wp2_with fail
   refine (HR.out _).mono ?_
   rintro e w2 ⟨rfl, h2⟩
   obtain ⟨hc2, hf2, hz2⟩ := qb h2
   try simp at hz2
   go_wp2
   all_goals
    first
     | (exact qV (.int .i64 ((B : Int) - 1)) (by simp [results, results252, go_sem]) (ret_int qo))
theorem sToWordEnd_any (s : ByteArray) (p n : Nat) (v c g : Bool) (w : World) (hs : s.size ≤ 1000) (hp : p ≤ s.size) (hn : n ≤ 99) :
  qC 210 #[.agg #[.string s, .int .i64 (p), .int .i64 (n), .bool v, .bool c], .bool g] w (.tuple #[.agg #[.int .i64 (wayX (endWay s g (max n 1) (p : Int))), .int .i64 (wayK (endWay s g (max n 1) (p : Int)))], .bool (wayZ (endWay s g (max n 1) (p : Int)))]) := by
 have HP : Hid (∀ (q : Nat), q ≤ s.size → ∀ ww, qC 252 #[.string s, .int .i64 q, .bool g] ww (.int .i64 (wes s g q))) := fun q hq ww => sWordEnd_any s q g ww hs hq
 have HN : qH 241 #[.agg #[.string s, .int .i64 (p), .int .i64 (n), .bool v, .bool c]] (.int .i64 ((max n 1 : Nat) : Int)) := by
  exact qt26
 have hN1 : 1 ≤ max n 1 := by omega
 have hN2 : max n 1 ≤ 99 := by omega
 generalize max n 1 = N at *
 have HU : qH 240 #[.agg #[.string s, .int .i64 (p), .int .i64 (n), .bool v, .bool c], .int .i64 (itr (wes s g) N p : Nat), .int .i64 1] (.tuple #[.agg #[.int .i64 (wayX (endWay s g N (p : Int))), .int .i64 (wayK (endWay s g N (p : Int)))], .bool (wayZ (endWay s g N (p : Int)))]) := by
  intro ww
  refine sUnless_way s p n _ 1 v c ww ?_
  have := endWay_itr s g p N hN1
  exact ⟨this.1.symm, fun h => ⟨(this.2 (this.1.trans h)).1.symm, (this.2 (this.1.trans h)).2.symm⟩⟩
 generalize endWay s g N (p : Int) = R at *
 go_enter func210, ntmps210
 have F : Five ((w.alloc (.cells #[.string s, .int .i64 (p), .int .i64 (n), .bool v, .bool c] 206)).alloc (.cells #[.int .i64 0, .int .i64 0] 202)) w.heap.size s p n v c := Five.alloc (Five.new _ _ _ _ _ _ _) _
 have RB : Two ((w.alloc (.cells #[.string s, .int .i64 (p), .int .i64 (n), .bool v, .bool c] 206)).alloc (.cells #[.int .i64 0, .int .i64 0] 202)) (w.heap.size + 1) 0 0 := qN
 go_wp2_with fail
 refine (HN.out _).mono ?_
 rintro r1 w1 ⟨rfl, h1⟩
 obtain ⟨hc1, hf1, hz1⟩ := qb h1
 (try simp at hz1)
 have F1 : Five w1 (w.heap.size) s p n v c := qF
 have ⟨F1_0, F1_1, F1_2, F1_3, F1_4, F1_z, F1_l⟩ := F1
 have RB1 : Two w1 (w.heap.size + 1) (0) (0) := qTw
 have ⟨RB1_0, RB1_1, RB1_z, RB1_l⟩ := RB1
 go_wp2
 go_loopw [6, 11] (fun q i wr => ∃ k : Nat, k ≤ N ∧ q = .int .i64 (itr (wes s g) k p : Nat) ∧ i = .int .i64 k ∧ Five wr w.heap.size s p n v c ∧ Two wr (w.heap.size + 1) 0 0 ∧ Below w.heap.size w wr) (fun _ i _ => N - (intOf i).toNat)
 case atStart =>
  refine ⟨0, by omega, rfl, rfl, F1, RB1, ?_⟩
  repeat exact qB
 case round =>
  clear F RB h1 hc1 hf1 F1_0 F1_1 F1_2 F1_3 F1_4 F1_z F1_l RB1_0 RB1_1 RB1_z RB1_l
  obtain ⟨k, hk, rfl, rfl, F, RB, hB⟩ := hrel
  have hq := itr_wes_le (g := g) hp k
  have ⟨f0, f1, f2, f3, f4, fz, fl⟩ := F
  have r0 := (RB).c0
  have r1 := (RB).c1
  have rz := (RB).fz
  have rl := (RB).lt
  have hzz := hB.size
  by_cases hlt : k < N
  ·have HS : qH 252 #[.string s, .int .i64 (itr (wes s g) k p : Nat), .bool g] (.int .i64 (itr (wes s g) (k + 1) p : Nat)) := fun ww => HP.out _ hq ww
   generalize hA : itr (wes s g) (k + 1) p = A at *
   exact qt21
  ·have ek : k = N := by omega
   subst ek
   generalize itr (wes s g) k p = A at *
   go_wp2_with fail
   refine (HU.out _).mono ?_
   rintro r2 w2 ⟨rfl, h2⟩
   obtain ⟨hc2, hf2, hz2⟩ := qb h2
   (try simp at hz2)
   have RB2 : Two w2 (w.heap.size + 1) (0) (0) := qTw
   have ⟨RB2_0, RB2_1, RB2_z, RB2_l⟩ := RB2
   go_wp2
   all_goals
    first
     | (exact qV (.tuple #[.agg #[.int .i64 (wayX (R)), .int .i64 (wayK (R))], .bool (wayZ (R))]) (by simp [results, results210, go_sem, RB2_0, RB2_1, RB2_z, RB2_l]) rfl)
theorem sKept_same (s : ByteArray) (p q C D : Nat) (w : World)
  (G1 : qH 195 #[.string s, .int .i64 p] (.agg #[.int .i64 (C), .int .i64 (D)]))
  (G2 : qH 195 #[.string s, .int .i64 q] (.agg #[.int .i64 (C), .int .i64 (D)])) :
  qC 250 #[.string s, .int .i64 p, .int .i64 q] w (.int .i64 q) := by
 have HQ : ∀ ww, (binOp .neq 128 (.agg #[.int .i64 (C), .int .i64 (D)]) (.agg #[.int .i64 (C), .int .i64 (D)])).run Tryz.prog ww = .ok (.bool false) ww := by intro ww; rw [neq_two]; simp
 go_enter func250, ntmps250
 go_wp2_with fail
 refine (G1.out _).mono ?_
 rintro e w1 ⟨rfl, h1⟩
 obtain ⟨hc1, hf1, hz1⟩ := qb h1
 try simp at hz1
 go_wp2_with fail
 refine wp_region_held_drew (S := fun ww => ww.cell? ⟨w1.heap.size, 0, none⟩ = some (.int .i64 C) ∧ ww.cell? ⟨w1.heap.size, 1, none⟩ = some (.int .i64 D)) qk ?_ (fun hHeld => ?_)
 ·refine ⟨?_, ?_⟩ <;> go_simp
 refine qT 0 ?_
 try simp only [Act.put, qP]
 refine qT 1 ?_
 try simp only [Act.put, qP]
 refine qT 3 ?_
 try simp only [Act.put, qP]
 refine qR 2 fun K hK => ?_
 rw [if_pos (by rfl)]
 go_wp2_with fail
 refine (G2.out _).mono ?_
 rintro r2 w2 ⟨rfl, h2⟩
 obtain ⟨hc2, hf2, hz2⟩ := qb h2
 (try simp at hz2)
 go_wp2_with fail
 refine hK.out _ _ ?_ (fun hHeld => ?_)
 ·refine ⟨(hc2 _ _ qi).trans hHeld.1, (hc2 _ _ qi).trans hHeld.2⟩
 clear hK K
 try simp only [Act.put, qP]
 refine qT 4 ?_
 try simp only [Act.put, qP]
 refine qT 5 ?_
 try simp only [Act.put, qP]
 refine qS 6 ?_
 try simp only [Act.put, qP]
 refine qS 7 ?_
 try simp only [Act.put, qP]
 refine qS 8 ?_
 try simp only [Act.put, qP]
 refine qS 9 ?_
 try simp only [Act.put, qP]
 refine qT 10 ?_
 try simp only [Act.put, qP]
 refine wpAnyH_done qk ?_ _
 go_wp2
 refine bodyPost_ret (v := .int .i64 q) (by simp [results, results250, go_sem]) rfl ⟨rfl, ?_⟩
 exact qB
theorem sKept_other (s : ByteArray) (p q A B C D : Nat) (w : World) (hx : ¬ (C = A ∧ D = B))
  (G1 : qH 195 #[.string s, .int .i64 p] (.agg #[.int .i64 (A), .int .i64 (B)]))
  (G2 : qH 195 #[.string s, .int .i64 q] (.agg #[.int .i64 (C), .int .i64 (D)])) :
  qC 250 #[.string s, .int .i64 p, .int .i64 q] w (.int .i64 ((if p = B then q else B : Nat) : Int)) := by
 have HQ : ∀ ww, (binOp .neq 128 (.agg #[.int .i64 (C), .int .i64 (D)]) (.agg #[.int .i64 (A), .int .i64 (B)])).run Tryz.prog ww = .ok (.bool true) ww := by
  intro ww; rw [neq_two]; congr 2; simp only [Bool.not_eq_true', Bool.and_eq_false_imp, beq_iff_eq, beq_eq_false_iff_ne]; omega
 clear hx
 by_cases hpB : p = B
 ·rw [if_pos hpB]
  subst hpB
  go_enter func250, ntmps250
  go_wp2_with fail
  refine (G1.out _).mono ?_
  rintro e w1 ⟨rfl, h1⟩
  obtain ⟨hc1, hf1, hz1⟩ := qb h1
  try simp at hz1
  go_wp2_with fail
  go_wp2_with fail
  go_region_held3 (fun ww => ww.cell? ⟨w1.heap.size, 0, none⟩ = some (.int .i64 A) ∧ ww.cell? ⟨w1.heap.size, 1, none⟩ = some (.int .i64 p)) ((refine ⟨?_, ?_⟩ <;> go_simp)) ((go_at_call 195; refine (G2.out _).mono ?_; rintro r2 w2 ⟨rfl, h2⟩; obtain ⟨hc2, hf2, hz2⟩ := qb h2; (try simp at hz2); (try have ⟨hl2_0, hk2_0⟩ := qL w1.heap.size w2.heap.size)))
  go_wp2
  refine bodyPost_ret (v := .int .i64 q) (by simp [results, results250, go_sem]) rfl ⟨rfl, ?_⟩
  exact qB
 ·rw [if_neg hpB]
  have hb : ((p : Int) = B) = False := by simp; omega
  clear hpB
  go_enter func250, ntmps250
  go_wp2_with fail
  refine (G1.out _).mono ?_
  rintro e w1 ⟨rfl, h1⟩
  obtain ⟨hc1, hf1, hz1⟩ := qb h1
  try simp at hz1
  go_wp2_with fail
  go_wp2_with fail
  go_region_held3 (fun ww => ww.cell? ⟨w1.heap.size, 0, none⟩ = some (.int .i64 A) ∧ ww.cell? ⟨w1.heap.size, 1, none⟩ = some (.int .i64 B)) ((refine ⟨?_, ?_⟩ <;> go_simp)) ((go_at_call 195; refine (G2.out _).mono ?_; rintro r2 w2 ⟨rfl, h2⟩; obtain ⟨hc2, hf2, hz2⟩ := qb h2; (try simp at hz2); (try have ⟨hl2_0, hk2_0⟩ := qL w1.heap.size w2.heap.size)))
  go_wp2
  ·refine bodyPost_ret (v := .int .i64 B) (by simp [results, results250, go_sem]) rfl ⟨rfl, ?_⟩
   exact qB
  ·rename_i hh; exact absurd hh (by simp [hb])
theorem sKept_any (s : ByteArray) (p q : Nat) (w : World) (hs : s.size ≤ 1000) (hp : p ≤ s.size) (hq : q ≤ s.size) :
  qC 250 #[.string s, .int .i64 p, .int .i64 q] w (.int .i64 ((if ¬ (beg s q = beg s p ∧ fin s q = fin s p) ∧ fin s p ≠ p then fin s p else q : Nat) : Int)) := by
 have G1 : qH 195 #[.string s, .int .i64 p] (.agg #[.int .i64 (beg s p), .int .i64 (fin s p)]) := fun ww => tLine_any s p p ww hs rfl hp
 have G2 : qH 195 #[.string s, .int .i64 q] (.agg #[.int .i64 (beg s q), .int .i64 (fin s q)]) := fun ww => tLine_any s q q ww hs rfl hq
 by_cases hx : beg s q = beg s p ∧ fin s q = fin s p
 ·rw [if_neg (by simp [hx])]
  rw [hx.1, hx.2] at G2
  exact sKept_same s p q _ _ w G1 G2
 ·have := sKept_other s p q _ _ _ _ w hx G1 G2
  by_cases hb : fin s p = p
  ·rw [if_neg (by simp [hb])]; rw [if_pos hb.symm] at this; exact this
  ·rw [if_pos ⟨hx, hb⟩]; rw [if_neg (fun h => hb h.symm)] at this; exact this
