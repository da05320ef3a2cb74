/- A part. -/
import Derived.Test.YtlendfhehhacpaaGreatQ17
import Derived.Test.YtlendfhehhacpaaGreatQ21
set_option linter.unusedVariables false
set_option linter.unusedSimpArgs false
set_option maxRecDepth 100000
set_option maxHeartbeats 8000000
namespace Go.Proofs.YtlendfhehhacpaaGreat
open Go.RowKit Nib Tryz
theorem sInkAhead_any (s : ByteArray) (q : Nat) (w : World) (hs : s.size ≤ 1000) (hq : q < s.size) :
  qC 283 #[.string s, .int .i64 q] w (.int .i64 (Nib.dn (bgap s) q)) := by
 generalize hX : Nib.dn (bgap s) q = X
 have HX : Hid (Nib.dn (bgap s) q = X) := hX
 clear hX
 have hq' : q ≤ s.size := by omega
 have hm := lin_lt hq'
 have HL : qH 195 #[.string s, .int .i64 q] (.agg #[.int .i64 (att s (lin s q)), .int .i64 (fin s (att s (lin s q)))]) := by
  intro ww
  have := tLine_any s q q ww hs rfl hq'
  rw [fin_eq hq', beg_eq hq'] at this
  exact this
 go_enter func283, ntmps283
 go_wp2_with fail
 go_step3
 go_wp2_with fail
 refine (HL.out _).mono ?_
 rintro e w1 ⟨rfl, h1⟩
 obtain ⟨hc1, hf1, hz1⟩ := qb h1
 try simp at hz1
 go_wp2
 go_step3
 go_wp2
 go_loopg [1, 6] (lin s q + 1) (fun g pl mo wr => (∃ j pv : Nat, j < lns s ∧ g = j + 1 ∧ pl = .int .i64 pv ∧ pv < s.size ∧ att s j ≤ pv ∧ pv ≤ fin s (att s j) ∧ Hid (Nib.dn (bgap s) pv = X) ∧ mo = .bool true ∧ Two wr w1.heap.size (att s j) (fin s (att s j)) ∧ Below w.heap.size w wr) ∨ (pl = .int .i64 (-1) ∧ Hid (X = 0) ∧ mo = .bool false ∧ Below w.heap.size w wr))
 case atStart =>
  refine Or.inl ⟨lin s q, q, hm, rfl, rfl, hq, ?_, ?_, HX, rfl, Two.new _ _ _ _, ?_⟩
  ·rw [← beg_eq hq']; exact beg_le s q
  ·rw [← fin_eq hq']; exact fin_ge s q
  ·repeat exact qB
 case round =>
  rcases hrel with ⟨j, pv, hj, hg, rfl, hps, hpa, hpf, hu, rfl, T, hB⟩ | ⟨rfl, HZ, rfl, hB⟩
  ·have t0 := (T).c0
   have t1 := (T).c1
   have tz := (T).fz
   have tl := (T).lt
   have HE1 : qH 185 #[.agg #[.int .i64 (att s j), .int .i64 (fin s (att s j))]] (.bool (emp s (att s j))) := by
    intro ww; rw [emp_att hj]; exact tIsEmpty_any _ _ ww
   cases hem : emp s (att s j) with
   | true =>
    rw [hem] at HE1
    have HZ : Hid (X = pv) := by
     have h9 := hem
     rw [emp_att hj] at h9
     simp only [beq_iff_eq] at h9
     have e : pv = att s j := by omega
     rw [Hid, ← hu.out, bgap_emp (by rw [e]; exact hem)]
    clear hem hu
    go_wp2_with fail
    refine (HE1.out _).mono ?_
    rintro r2 w2 ⟨rfl, h2⟩
    obtain ⟨hc2, hf2, hz2⟩ := qb h2
    (try simp at hz2)
    have T2 : Two w2 (w1.heap.size) (att s j) (fin s (att s j)) := qTw
    have ⟨T2_0, T2_1, T2_z, T2_l⟩ := T2
    go_wp2
    (try rw [Exit.noGoto_ret])
    all_goals
     first
      | (exact qV (.int .i64 pv) (by simp [results, results283, go_sem]) (ret_int (by rw [HZ.out])))
   | false =>
    rw [hem] at HE1
    have hlin := emp_att_ne hj hem
    have HEM : Hid (emp s (att s j) = false) := hem
    clear hem
    go_wp2_with fail
    refine (HE1.out _).mono ?_
    rintro r2 w2 ⟨rfl, h2⟩
    obtain ⟨hc2, hf2, hz2⟩ := qb h2
    (try simp at hz2)
    have T2 : Two w2 (w1.heap.size) (att s j) (fin s (att s j)) := qTw
    have ⟨T2_0, T2_1, T2_z, T2_l⟩ := T2
    clear hc2 hf2
    go_wp2
    go_loopg [1] (pv + 1 - att s j) (fun g2 pl wx => ∃ k : Nat, att s j ≤ k ∧ k ≤ pv + 1 ∧ g2 = k - att s j ∧ pl = .int .i64 ((k : Int) - 1) ∧ Hid (Nib.dn (bgap s) (k - 1) = X) ∧ wx = w2)
    case atStart => exact ⟨pv + 1, by omega, Nat.le_refl _, rfl, by go_num, hu, rfl⟩
    case round =>
     clear hu
     obtain ⟨k, hk1, hk2, hk3, rfl, hu, rfl⟩ := hrel
     by_cases hlt : att s j < k
     ·obtain ⟨i, rfl⟩ : ∃ i, k = i + 1 := ⟨k - 1, by omega⟩
      have e1 : ((i + 1 : Nat) : Int) - 1 = (i : Int) := by omega
      rw [e1]
      have his : i < s.size := by omega
      have hei := emp_in hj (show att s j ≤ i by omega) (show i ≤ fin s (att s j) by omega) hlin
      have HI : Hid (∀ ww, Calls Tryz.prog 247 #[.string s, .int .i64 i] ww fun e w' => e = .returned (.bool (!spc (bt s i))) ∧ w' = ww) := by
       intro ww
       have := sHasInk_any s i i ww hs rfl qo
       rw [decide_eq_true his, Bool.true_and] at this
       exact this
      have hle' : ((att s j : Nat) : Int) ≤ (i : Int) := by omega
      cases hsp : spc (bt s i) with
      | false =>
       have HS : Hid (X = i) := by
        rw [Hid, ← hu.out, Nat.add_sub_cancel, bgap_ink hsp]
       rw [hsp] at HI
       clear hsp hu e1 hei
       go_wp2_with fail
       refine (HI.out _).mono ?_
       rintro e w' ⟨rfl, rfl⟩
       go_wp2
       (try rw [Exit.noGoto_ret])
       all_goals
        first
         | (exact qV (.int .i64 i) (by simp [results, results283, go_sem]) (ret_int (by rw [HS.out])))
      | true =>
       have HS : Hid (Nib.dn (bgap s) (i - 1) = X) := by
        rw [Hid, ← hu.out, Nat.add_sub_cancel, bgap_go hsp hei]
       rw [hsp] at HI
       clear hsp hu e1 hei
       go_wp2_with fail
       refine (HI.out _).mono ?_
       rintro e w' ⟨rfl, rfl⟩
       go_wp2
       go_roundg (i - att s j)
       case measure => omega
       case rel => exact ⟨i, by omega, by omega, rfl, by go_num, HS, rfl⟩
     ·have ek : k = att s j := by omega
      subst ek
      have hge : ¬ ((att s j : Nat) : Int) ≤ ((att s j : Nat) : Int) - 1 := by omega
      by_cases h0 : 0 < j
      ·have hbes : fin s (att s (j - 1)) + 1 = att s j := by
        obtain ⟨i, rfl⟩ : ∃ i, j = i + 1 := ⟨j - 1, by omega⟩
        rfl
       have HBs : qH 223 #[.string s, .agg #[.int .i64 (att s j), .int .i64 (fin s (att s j))], .int .i64 (-1)] (.tuple #[.agg #[.int .i64 (att s (j - 1)), .int .i64 (fin s (att s (j - 1)))], .bool true]) := fun ww => tBeside_up s _ _ _ j ww hs rfl hj rfl h0
       have HQ : Hid (fin s (att s (j - 1)) + 1 = att s j) := hbes
       clear hbes
       go_wp2_with fail
       refine (HBs.out _).mono ?_
       rintro r3 w3 ⟨rfl, h3⟩
       obtain ⟨hc3, hf3, hz3⟩ := qb h3
       (try simp at hz3)
       have T23 : Two w3 (w1.heap.size) (att s j) (fin s (att s j)) := qTw
       have ⟨T23_0, T23_1, T23_z, T23_l⟩ := T23
       clear hc3 hf3
       go_wp2
       have hq9 := HQ.out
       go_roundg j
       case measure => omega
       case rel =>
        refine Or.inl ⟨j - 1, att s j - 1, by omega, by omega, by congr 1; omega, by omega, ?_, by omega, hu, rfl, Two.set1 (Two.set0 T23 _) _, ?_⟩
        ·have := fin_ge s (att s (j - 1)); omega
        ·repeat exact qB
      ·have e0 : j = 0 := by omega
       have ea : att s j = 0 := by rw [e0]; rfl
       have HZ : Hid (X = 0) := by rw [Hid, ← hu.out, ea]; rfl
       have HBs : qH 223 #[.string s, .agg #[.int .i64 (att s j), .int .i64 (fin s (att s j))], .int .i64 (-1)] (.tuple #[.agg #[.int .i64 (0), .int .i64 (0)], .bool false]) := fun ww => tBeside_none s _ _ _ ww hs (Or.inr rfl) (fun h => by omega) (fun _ => by omega)
       have HA : Hid (att s j = 0) := ea
       clear ea e0
       go_wp2_with fail
       refine (HBs.out _).mono ?_
       rintro r3 w3 ⟨rfl, h3⟩
       obtain ⟨hc3, hf3, hz3⟩ := qb h3
       (try simp at hz3)
       have T23 : Two w3 (w1.heap.size) (att s j) (fin s (att s j)) := qTw
       have ⟨T23_0, T23_1, T23_z, T23_l⟩ := T23
       clear hc3 hf3
       go_wp2
       have ha9 := HA.out
       go_roundg 0
       case measure => omega
       case rel =>
        refine Or.inr ⟨by congr 1; omega, HZ, rfl, ?_⟩
        repeat exact qB
  ·go_wp2
   (try rw [Exit.noGoto_ret])
   all_goals
    first
     | (exact qV (.int .i64 0) (by simp [results, results283, go_sem]) (ret_int (by rw [HZ.out]; rfl)))
theorem sStepAhead_any (s : ByteArray) (r : Nat) (g : Bool) (w : World) (hs : s.size ≤ 1000) (hr : r ≤ s.size) :
  qC 251 #[.string s, .int .i64 r, .bool g] w (.int .i64 (bstep s g r)) := by
 by_cases he : r = 0
 ·subst he
  have e : bstep s g 0 = 0 := by unfold bstep; rw [if_pos rfl]
  rw [e]
  clear e
  go_enter func251, ntmps251
  go_wp2
  all_goals
   first
    | (exact qV (.int .i64 0) (by simp [results, results251, go_sem]) rfl)
 ·have HI : qH 283 #[.string s, .int .i64 ((r : Int) - 1)] (.int .i64 (bto s r : Nat)) := by
   intro ww
   have := sInkAhead_any s (r - 1) ww hs qo
   rw [show ((r - 1 : Nat) : Int) = (r : Int) - 1 by omega] at this
   exact this
  have hb := bto_le s r
  have hne : ((r : Int) == 0) = false := by simp; omega
  rw [bstep_run qo hr]
  by_cases h10 : bt s (bto s r) = 10
  ·rw [if_pos h10]
   generalize bto s r = B at *
   have HR : qH 256 #[.string s, .int .i64 B, .bool g] (.agg #[.int .i64 (B), .int .i64 (B)]) := fun ww => tRun_none s B B g ww hs rfl qo (fun _ => h10)
   clear h10
   have hx := ix0 B B
   go_enter func251, ntmps251
   go_wp2_with fail
   refine (HI.out _).mono ?_
   rintro e w1 ⟨rfl, h1⟩
   obtain ⟨hc1, hf1, hz1⟩ := qb h1
   try simp at hz1
   go_wp2_with fail
   refine (HR.out _).mono ?_
   rintro e w2 ⟨rfl, h2⟩
   obtain ⟨hc2, hf2, hz2⟩ := qb h2
   try simp at hz2
   go_wp2
   all_goals
    first
     | (exact qV (.int .i64 B) (by simp [results, results251, go_sem]) rfl)
  ·rw [if_neg h10]
   generalize bto s r = B at *
   have HR : qH 256 #[.string s, .int .i64 B, .bool g] (.agg #[.int .i64 (runB s B g), .int .i64 (wrun s B g)]) := fun ww => tRun_any s B B g ww hs rfl qo h10
   clear h10
   have hx := ix0 (runB s B g) (wrun s B g)
   generalize runB s B g = C at *
   generalize wrun s B g = D at *
   go_enter func251, ntmps251
   go_wp2_with fail
   refine (HI.out _).mono ?_
   rintro e w1 ⟨rfl, h1⟩
   obtain ⟨hc1, hf1, hz1⟩ := qb h1
   try simp at hz1
   go_wp2_with fail
   refine (HR.out _).mono ?_
   rintro e w2 ⟨rfl, h2⟩
   obtain ⟨hc2, hf2, hz2⟩ := qb h2
   try simp at hz2
   go_wp2
   all_goals
    first
     | (exact qV (.int .i64 C) (by simp [results, results251, go_sem]) rfl)
theorem sToAhead_any (s : ByteArray) (p n : Nat) (v c g : Bool) (w : World) (hs : s.size ≤ 1000) (hp : p ≤ s.size) (hn : n ≤ 99) :
  qC 209 #[.agg #[.string s, .int .i64 (p), .int .i64 (n), .bool v, .bool c], .bool g] w (.tuple #[.agg #[.int .i64 (wayX (wayB s p (max n 1) g)), .int .i64 (wayK (wayB s p (max n 1) g))], .bool (wayZ (wayB s p (max n 1) g))]) := by
 have HP : Hid (∀ (q : Nat), q ≤ s.size → ∀ ww, qC 251 #[.string s, .int .i64 q, .bool g] ww (.int .i64 (bstep s g q))) := fun q hq ww => sStepAhead_any s q g ww hs hq
 have HN : qH 241 #[.agg #[.string s, .int .i64 (p), .int .i64 (n), .bool v, .bool c]] (.int .i64 ((max n 1 : Nat) : Int)) := by
  exact qt46
 have hN1 : 1 ≤ max n 1 := by omega
 have hN2 : max n 1 ≤ 99 := by omega
 generalize max n 1 = N at *
 have HU : qH 240 #[.agg #[.string s, .int .i64 (p), .int .i64 (n), .bool v, .bool c], .int .i64 (itr (bstep s g) N p : Nat), .int .i64 0] (.tuple #[.agg #[.int .i64 (wayX (wayB s p N g)), .int .i64 (wayK (wayB s p N g))], .bool (wayZ (wayB s p N g))]) := by
  intro ww
  refine sUnless_way s p n _ 0 v c ww ?_
  exact ⟨wayB_eq s p N g hN1, fun _ => ⟨rfl, rfl⟩⟩
 generalize wayB s p N g = R at *
 go_enter func209, ntmps209
 have F : Five ((w.alloc (.cells #[.string s, .int .i64 (p), .int .i64 (n), .bool v, .bool c] 206)).alloc (.cells #[.int .i64 0, .int .i64 0] 202)) w.heap.size s p n v c := Five.alloc (Five.new _ _ _ _ _ _ _) _
 have RB : Two ((w.alloc (.cells #[.string s, .int .i64 (p), .int .i64 (n), .bool v, .bool c] 206)).alloc (.cells #[.int .i64 0, .int .i64 0] 202)) (w.heap.size + 1) 0 0 := qN
 go_wp2_with fail
 refine (HN.out _).mono ?_
 rintro r1 w1 ⟨rfl, h1⟩
 obtain ⟨hc1, hf1, hz1⟩ := qb h1
 (try simp at hz1)
 have F1 : Five w1 (w.heap.size) s p n v c := qF
 have ⟨F1_0, F1_1, F1_2, F1_3, F1_4, F1_z, F1_l⟩ := F1
 have RB1 : Two w1 (w.heap.size + 1) (0) (0) := qTw
 have ⟨RB1_0, RB1_1, RB1_z, RB1_l⟩ := RB1
 go_wp2
 go_loopw [6, 11] (fun q i wr => ∃ k : Nat, k ≤ N ∧ q = .int .i64 (itr (bstep s g) k p : Nat) ∧ i = .int .i64 k ∧ Five wr w.heap.size s p n v c ∧ Two wr (w.heap.size + 1) 0 0 ∧ Below w.heap.size w wr) (fun _ i _ => N - (intOf i).toNat)
 case atStart =>
  refine ⟨0, by omega, rfl, rfl, F1, RB1, ?_⟩
  repeat exact qB
 case round =>
  clear F RB h1 hc1 hf1 F1_0 F1_1 F1_2 F1_3 F1_4 F1_z F1_l RB1_0 RB1_1 RB1_z RB1_l
  obtain ⟨k, hk, rfl, rfl, F, RB, hB⟩ := hrel
  have hq : itr (bstep s g) k p ≤ s.size := Nat.le_trans (itr_b_le k) hp
  have ⟨f0, f1, f2, f3, f4, fz, fl⟩ := F
  have r0 := (RB).c0
  have r1 := (RB).c1
  have rz := (RB).fz
  have rl := (RB).lt
  have hzz := hB.size
  by_cases hlt : k < N
  ·have HS : qH 251 #[.string s, .int .i64 (itr (bstep s g) k p : Nat), .bool g] (.int .i64 (itr (bstep s g) (k + 1) p : Nat)) := fun ww => HP.out _ hq ww
   generalize hA : itr (bstep s g) (k + 1) p = A at *
   exact qt35
  ·have ek : k = N := by omega
   subst ek
   generalize itr (bstep s g) k p = A at *
   go_wp2_with fail
   refine (HU.out _).mono ?_
   rintro r2 w2 ⟨rfl, h2⟩
   obtain ⟨hc2, hf2, hz2⟩ := qb h2
   (try simp at hz2)
   have RB2 : Two w2 (w.heap.size + 1) (0) (0) := qTw
   have ⟨RB2_0, RB2_1, RB2_z, RB2_l⟩ := RB2
   go_wp2
   all_goals
    first
     | (exact qV (.tuple #[.agg #[.int .i64 (wayX (R)), .int .i64 (wayK (R))], .bool (wayZ (R))]) (by simp [results, results209, go_sem, RB2_0, RB2_1, RB2_z, RB2_l]) rfl)
theorem sKept_same (s : ByteArray) (p q C D : Nat) (w : World)
  (G1 : qH 195 #[.string s, .int .i64 p] (.agg #[.int .i64 (C), .int .i64 (D)]))
  (G2 : qH 195 #[.string s, .int .i64 q] (.agg #[.int .i64 (C), .int .i64 (D)])) :
  qC 250 #[.string s, .int .i64 p, .int .i64 q] w (.int .i64 q) := by
 have HQ : ∀ ww, (binOp .neq 128 (.agg #[.int .i64 (C), .int .i64 (D)]) (.agg #[.int .i64 (C), .int .i64 (D)])).run Tryz.prog ww = .ok (.bool false) ww := by intro ww; rw [neq_two]; simp
 go_enter func250, ntmps250
 go_wp2_with fail
 refine (G1.out _).mono ?_
 rintro e w1 ⟨rfl, h1⟩
 obtain ⟨hc1, hf1, hz1⟩ := qb h1
 try simp at hz1
 go_wp2_with fail
 refine wp_region_held_drew (S := fun ww => ww.cell? ⟨w1.heap.size, 0, none⟩ = some (.int .i64 C) ∧ ww.cell? ⟨w1.heap.size, 1, none⟩ = some (.int .i64 D)) qk ?_ (fun hHeld => ?_)
 ·refine ⟨?_, ?_⟩ <;> go_simp
 refine qT 0 ?_
 try simp only [Act.put, qP]
 refine qT 1 ?_
 try simp only [Act.put, qP]
 refine qT 3 ?_
 try simp only [Act.put, qP]
 refine qR 2 fun K hK => ?_
 rw [if_pos (by rfl)]
 go_wp2_with fail
 refine (G2.out _).mono ?_
 rintro r2 w2 ⟨rfl, h2⟩
 obtain ⟨hc2, hf2, hz2⟩ := qb h2
 (try simp at hz2)
 go_wp2_with fail
 refine hK.out _ _ ?_ (fun hHeld => ?_)
 ·refine ⟨(hc2 _ _ qi).trans hHeld.1, (hc2 _ _ qi).trans hHeld.2⟩
 clear hK K
 try simp only [Act.put, qP]
 refine qT 4 ?_
 try simp only [Act.put, qP]
 refine qT 5 ?_
 try simp only [Act.put, qP]
 refine qS 6 ?_
 try simp only [Act.put, qP]
 refine qS 7 ?_
 try simp only [Act.put, qP]
 refine qS 8 ?_
 try simp only [Act.put, qP]
 refine qS 9 ?_
 try simp only [Act.put, qP]
 refine qT 10 ?_
 try simp only [Act.put, qP]
 refine wpAnyH_done qk ?_ _
 go_wp2
 refine bodyPost_ret (v := .int .i64 q) (by simp [results, results250, go_sem]) rfl ⟨rfl, ?_⟩
 exact qB
theorem sKept_other (s : ByteArray) (p q A B C D : Nat) (w : World) (hx : ¬ (C = A ∧ D = B))
  (G1 : qH 195 #[.string s, .int .i64 p] (.agg #[.int .i64 (A), .int .i64 (B)]))
  (G2 : qH 195 #[.string s, .int .i64 q] (.agg #[.int .i64 (C), .int .i64 (D)])) :
  qC 250 #[.string s, .int .i64 p, .int .i64 q] w (.int .i64 ((if p = B then q else B : Nat) : Int)) := by
 have HQ : ∀ ww, (binOp .neq 128 (.agg #[.int .i64 (C), .int .i64 (D)]) (.agg #[.int .i64 (A), .int .i64 (B)])).run Tryz.prog ww = .ok (.bool true) ww := by
  intro ww; rw [neq_two]; congr 2; simp only [Bool.not_eq_true', Bool.and_eq_false_imp, beq_iff_eq, beq_eq_false_iff_ne]; omega
 clear hx
 by_cases hpB : p = B
 ·rw [if_pos hpB]
  subst hpB
  go_enter func250, ntmps250
  go_wp2_with fail
  refine (G1.out _).mono ?_
  rintro e w1 ⟨rfl, h1⟩
  obtain ⟨hc1, hf1, hz1⟩ := qb h1
  try simp at hz1
  go_wp2_with fail
  go_wp2_with fail
  go_region_held3 (fun ww => ww.cell? ⟨w1.heap.size, 0, none⟩ = some (.int .i64 A) ∧ ww.cell? ⟨w1.heap.size, 1, none⟩ = some (.int .i64 p)) ((refine ⟨?_, ?_⟩ <;> go_simp)) ((go_at_call 195; refine (G2.out _).mono ?_; rintro r2 w2 ⟨rfl, h2⟩; obtain ⟨hc2, hf2, hz2⟩ := qb h2; (try simp at hz2); (try have ⟨hl2_0, hk2_0⟩ := qL w1.heap.size w2.heap.size)))
  go_wp2
  refine bodyPost_ret (v := .int .i64 q) (by simp [results, results250, go_sem]) rfl ⟨rfl, ?_⟩
  exact qB
 ·rw [if_neg hpB]
  have hb : ((p : Int) = B) = False := by simp; omega
  clear hpB
  go_enter func250, ntmps250
  go_wp2_with fail
  refine (G1.out _).mono ?_
  rintro e w1 ⟨rfl, h1⟩
  obtain ⟨hc1, hf1, hz1⟩ := qb h1
  try simp at hz1
  go_wp2_with fail
  go_wp2_with fail
  go_region_held3 (fun ww => ww.cell? ⟨w1.heap.size, 0, none⟩ = some (.int .i64 A) ∧ ww.cell? ⟨w1.heap.size, 1, none⟩ = some (.int .i64 B)) ((refine ⟨?_, ?_⟩ <;> go_simp)) ((go_at_call 195; refine (G2.out _).mono ?_; rintro r2 w2 ⟨rfl, h2⟩; obtain ⟨hc2, hf2, hz2⟩ := qb h2; (try simp at hz2); (try have ⟨hl2_0, hk2_0⟩ := qL w1.heap.size w2.heap.size)))
  go_wp2
  ·refine bodyPost_ret (v := .int .i64 B) (by simp [results, results250, go_sem]) rfl ⟨rfl, ?_⟩
   exact qB
  ·rename_i hh; exact absurd hh (by simp [hb])
theorem sKept_any (s : ByteArray) (p q : Nat) (w : World) (hs : s.size ≤ 1000) (hp : p ≤ s.size) (hq : q ≤ s.size) :
  qC 250 #[.string s, .int .i64 p, .int .i64 q] w (.int .i64 ((if ¬ (beg s q = beg s p ∧ fin s q = fin s p) ∧ fin s p ≠ p then fin s p else q : Nat) : Int)) := by
 have G1 : qH 195 #[.string s, .int .i64 p] (.agg #[.int .i64 (beg s p), .int .i64 (fin s p)]) := fun ww => tLine_any s p p ww hs rfl hp
 have G2 : qH 195 #[.string s, .int .i64 q] (.agg #[.int .i64 (beg s q), .int .i64 (fin s q)]) := fun ww => tLine_any s q q ww hs rfl hq
 by_cases hx : beg s q = beg s p ∧ fin s q = fin s p
 ·rw [if_neg (by simp [hx])]
  rw [hx.1, hx.2] at G2
  exact sKept_same s p q _ _ w G1 G2
 ·have := sKept_other s p q _ _ _ _ w hx G1 G2
  by_cases hb : fin s p = p
  ·rw [if_neg (by simp [hb])]; rw [if_pos hb.symm] at this; exact this
  ·rw [if_pos ⟨hx, hb⟩]; rw [if_neg (fun h => hb h.symm)] at this; exact this
structure RgAt (w : World) (m : Nat) (f : Int → Value) : Prop where
 out : ∃ (es : Array MapEntry) (k : Nat), w.heap[m]? = some (.map es k) ∧ RgOk es.toList ∧ ∀ d, rgVal (rgFind es.toList d 0) = f d
def rgSet (f : Int → Value) (c : Int) (v : Value) : Int → Value := fun d => if d = c then v else f d
theorem RgAt.lt {w : World} {m : Nat} {f : Int → Value} (h : RgAt w m f) : m < w.heap.size := by
 obtain ⟨es, k, h1, _⟩ := h.out
 exact (Array.getElem?_eq_some_iff.1 h1).1
theorem RgAt.update {w : World} {m : Nat} {f : Int → Value} (h : RgAt w m f) (c : Int) (t : ByteArray) (l : Bool) :
  ∃ w' : World, (Instr.mapUpdate 90 (.map (some m)) (.int .u8 c) (.agg #[.string t, .bool l])).run Tryz.prog w = .ok () w' ∧ RgAt w' m (rgSet f c (.agg #[.string t, .bool l])) ∧ Upd [m] w w' := by
 obtain ⟨es, k, h1, h2, h3⟩ := h.out
 obtain ⟨es', k', g1, g2, g3⟩ := rg_update m k c t l es w h1 h2
 have hl := h.lt
 refine ⟨_, g1, ⟨es', k', by simp [hl], g2, ?_⟩, ?_⟩
 ·intro d
  rw [g3 d]
  unfold rgSet
  split
  ·rfl
  ·exact h3 d
 ·refine ⟨rfl, rfl, rfl, by simp, fun i hi hn => ?_⟩
  have : m ≠ i := by intro e; subst e; exact hn qi
  exact Array.getElem?_setIfInBounds_ne this
theorem RgAt.of_block {w w' : World} {m : Nat} {f : Int → Value} (h : RgAt w m f) (hb : w'.heap[m]? = w.heap[m]?) : RgAt w' m f := by
 obtain ⟨es, k, h1, h2⟩ := h.out
 exact ⟨es, k, hb.trans h1, h2⟩
theorem RgAt.below {w w' : World} {m : Nat} {f : Int → Value} (h : RgAt w m f) (hb : Below w.heap.size w w') : RgAt w' m f := h.of_block (hb.block m h.lt)
theorem RgAt.alloc {w : World} {m : Nat} {f : Int → Value} (h : RgAt w m f) (o : Obj) : RgAt (w.alloc o) m f := h.below ((Below.refl _ _).alloc (Nat.le_refl _) _)
theorem RgAt.drew {w : World} {m : Nat} {f : Int → Value} (h : RgAt w m f) : RgAt w.drew m f := h.below (Below.refl _ _).drew
theorem RgAt.drewN {w : World} {m : Nat} {f : Int → Value} (h : RgAt w m f) (n : Nat) : RgAt (w.drewN n) m f := h.below (below_drewN (Below.refl _ _) _)
theorem RgAt.other {w : World} {m : Nat} {f : Int → Value} (h : RgAt w m f) {q : Addr} (hp : m ≠ q.block) (u : Value) : RgAt (w.setCell q u) m f := h.of_block (Below.heap_setCell _ _ _ _ hp)
theorem rWrite_none (m : Nat) (t : ByteArray) (l : Bool) (f : Int → Value) (w : World) (h : RgAt w m f) :
  Calls Tryz.prog 177 #[.map (some m), .int .u8 0, .agg #[.string t, .bool l]] w fun e w' => e = .returned (.tuple #[]) ∧ RgAt w' m (rgSet f 34 (.agg #[.string t, .bool l])) ∧ Upd [m] w w' := by
 obtain ⟨w1, g1, g2, g3⟩ := (h.alloc (.cells #[.string t, .bool l] 99)).update 34 t l
 clear h
 go_enter func177, ntmps177
 go_wp2
 go_end0
 exact ⟨rfl, g2, (Upd.alloc (Upd.refl _ _) _).trans g3⟩
theorem rWrite_named (m : Nat) (c : Int) (t : ByteArray) (l : Bool) (f : Int → Value) (w : World) (h : RgAt w m f) (hc : c ≠ 0) :
  Calls Tryz.prog 177 #[.map (some m), .int .u8 c, .agg #[.string t, .bool l]] w fun e w' => e = .returned (.tuple #[]) ∧ RgAt w' m (rgSet (rgSet f 34 (.agg #[.string t, .bool l])) c (.agg #[.string t, .bool l])) ∧ Upd [m] w w' := by
 obtain ⟨w1, g1, g2, g3⟩ := (h.alloc (.cells #[.string t, .bool l] 99)).update 34 t l
 obtain ⟨w2, k1, k2, k3⟩ := g2.update c t l
 have hl := h.lt
 have hb := g3.block w.heap.size qi qs
 have c0 : w1.cell? ⟨w.heap.size, 0, none⟩ = some (.string t) := (World.cell?_of_block (w := w.alloc (.cells #[.string t, .bool l] 99)) hb).trans qi
 have c1 : w1.cell? ⟨w.heap.size, 1, none⟩ = some (.bool l) := (World.cell?_of_block (w := w.alloc (.cells #[.string t, .bool l] 99)) hb).trans qi
 clear h hb
 go_enter func177, ntmps177
 go_wp2
 go_end0
 exact ⟨rfl, k2, ((Upd.alloc (Upd.refl _ _) _).trans g3).trans k3⟩
structure DoAt (w W : World) (r d m b k : Nat) (p : Pg) (f : Int → Value) (i j : Int) (l : Bool) (X : ByteArray) : Prop where
 rd : RdAt W r d p
 rg : RgAt W m f
 p0 : W.cell? ⟨b, 0, none⟩ = some (.int .i64 i)
 p1 : W.cell? ⟨b, 1, none⟩ = some (.int .i64 j)
 p2 : W.cell? ⟨b, 2, none⟩ = some (.bool l)
 x0 : W.cell? ⟨k, 0, none⟩ = some (.string X)
 x1 : W.cell? ⟨k, 1, none⟩ = some (.bool l)
 lb : b < W.heap.size
 lk : k < W.heap.size
 up : Below w.heap.size w W
 lw : w.heap.size < k
def rgW (f : Int → Value) (c : Int) (t : ByteArray) (l : Bool) : Int → Value :=
 if c = 0 then rgSet f 34 (.agg #[.string t, .bool l]) else rgSet (rgSet f 34 (.agg #[.string t, .bool l])) c (.agg #[.string t, .bool l])
def tkn (s : ByteArray) (i j : Nat) (l : Bool) : ByteArray := s.extract i j ++ if l then ⟨#[10]⟩ else ⟨#[]⟩
theorem rWrite_any (m : Nat) (c : Int) (t : ByteArray) (l : Bool) (f : Int → Value) (w : World) (h : RgAt w m f) :
  Calls Tryz.prog 177 #[.map (some m), .int .u8 c, .agg #[.string t, .bool l]] w fun e w' => e = .returned (.tuple #[]) ∧ RgAt w' m (rgW f c t l) ∧ Upd [m] w w' := by
 unfold rgW
 by_cases hr : c = 0
 ·rw [if_pos hr, hr]; exact rWrite_none m t l f w h
 ·rw [if_neg hr]; exact rWrite_named m c t l f w h hr
theorem qt26 {P : Prop} (h : P := by
  refine ⟨RdAt.other (RdAt.other ((((RdAt.alloc H _).below h1).alloc _).drew.below h2) qs qs _) qs qs _, RgAt.other (RgAt.other ((((RgAt.alloc hg _).below h1).alloc _).drew.below h2) (by have := hg.lt; simp; omega) _) (by have := hg.lt; simp; omega) _, hHeld.2.2.1, hHeld.2.2.2.1, hHeld.2.2.2.2, ?_, ?_, ?_, ?_, ?_, by omega⟩
  ·first | (simp; done) | (go_simp; done)
  ·first | (simp; done) | (go_simp; done)
  ·simp; omega
  ·simp <;> omega
  ·repeat exact qB
 ) : P := h
theorem qt33 {P : Prop} (h : P := by
  refine ⟨RdAt.alloc (((RdAt.alloc H _).below h1).drew.below h2) _, RgAt.alloc (((RgAt.alloc hg _).below h1).drew.below h2) _, hHeld.2.2.1, hHeld.2.2.2.1, hHeld.2.2.2.2, ?_, ?_, ?_, ?_, ?_, by omega⟩
  ·first | (simp; done) | (go_simp; done)
  ·first | (simp; done) | (go_simp; done)
  ·simp; omega
  ·simp <;> omega
  ·repeat exact qB
 ) : P := h
theorem qt57 {P : Prop} (h : P := by
  intro ww
  have := tNothing_any i j l ww
  rw [show (((i : Int) == j) && !l) = false by
   rw [Bool.and_eq_false_iff]
   by_cases e : i = j
   ·right; cases l
    ·exact absurd ⟨e, rfl⟩ hne
    ·rfl
   ·left; simp; omega] at this
  exact this
 ) : P := h
theorem mDo_write (v : Int) (r d m : Nat) (p : Pg) (i j : Nat) (l : Bool) (t2 : ByteArray) (q : Nat) (f : Int → Value) (w : World) (h : RdAt w r d p) (hg : RgAt w m f) (hm : p.regs = .map (some m)) (hmr : m ≠ r) (hmd : m ≠ d) (hs : p.t.size ≤ 1000) (hs2 : t2.size ≤ 1000) (hij : i ≤ j) (hj : j ≤ p.t.size) (hne : ¬ (i = j ∧ l = false)) (hq : q ≤ t2.size) (hv : v = 100 ∨ v = 121)
  (HD : qH 174 #[.int .u8 v, .string p.t, .agg #[.int .i64 i, .int .i64 j, .bool l], .int .i64 p.pl] (.tuple #[.string t2, .int .i64 q])) :
  Calls Tryz.prog 146 #[.pointer (some ⟨r, 0, none⟩), .int .u8 v, .agg #[.int .i64 i, .int .i64 j, .bool l]] w fun e w' => e = .returned (.int .i64 (if v = 121 then 1 else 2)) ∧ RdAt w' r d { p with t := t2, mode := 0, anchor := 0, pl := clm t2 q } ∧ RgAt w' m (rgW f p.reg (tkn p.t i j l) l) ∧ Upd [d, m] w w' := by
 have HN : qH 172 #[.agg #[.int .i64 i, .int .i64 j, .bool l]] (.bool false) := by
  exact qt57
 have HT : qH 173 #[.string p.t, .agg #[.int .i64 i, .int .i64 j, .bool l]] (.agg #[.string (tkn p.t i j l), .bool l]) := fun ww => mTaken_piece p.t i j l ww hs hij hj
 generalize tkn p.t i j l = X at *
 have HBc : Hid (∀ ww, RdAt ww r d p → Calls Tryz.prog 175 #[.pointer (some ⟨d, 0, none⟩), .string t2] ww fun e w' => e = .returned (.bool true) ∧ RdAt w' r d { p with t := t2 } ∧ Upd [d] ww w') := fun ww hh => mBecome r d p t2 ww hh hs2
 have hml := hg.lt
 have HWr : Hid (∀ ww, RgAt ww m f → Calls Tryz.prog 177 #[.map (some m), .int .u8 p.reg, .agg #[.string X, .bool l]] ww fun e w' => e = .returned (.tuple #[]) ∧ RgAt w' m (rgW f p.reg X l) ∧ Upd [m] ww w') := fun ww hh => rWrite_any m p.reg X l f ww hh
 generalize rgW f p.reg X l = f2 at *
 have HWs : qH 176 #[.int .u8 v] (.bool true) := fun ww => by
  rcases hv with hv | hv <;> subst hv <;> exact vWrites_any _ ww
 have HTN : Hid (∀ ww, RdAt ww r d { p with t := t2 } → Calls Tryz.prog 136 #[.pointer (some ⟨d, 0, none⟩)] ww fun e w' => e = .returned (.tuple #[]) ∧ RdAt w' r d { p with t := t2, mode := 0, anchor := 0 } ∧ Upd [d] ww w') := fun ww hh => mToNormal r d { p with t := t2 } ww hh
 have HMv : Hid (∀ ww, RdAt ww r d { p with t := t2, mode := 0, anchor := 0 } → Calls Tryz.prog 179 #[.pointer (some ⟨d, 0, none⟩), .int .i64 q] ww fun e w' => e = .returned (.tuple #[]) ∧ RdAt w' r d { p with t := t2, mode := 0, anchor := 0, pl := clm t2 q } ∧ Upd [d] ww w') := fun ww hh => mMoveTo r d { p with t := t2, mode := 0, anchor := 0 } q q ww hh hs2 rfl hq
 have v99 : (v == 99) = false := by simp; omega
 have hO : (v = 100 ∧ (if v = 121 then (1 : Int) else 2) = 2) ∨ (v = 121 ∧ (if v = 121 then (1 : Int) else 2) = 1) := by
  rcases hv with hv | hv <;> subst hv <;> simp
 generalize (if v = 121 then (1 : Int) else 2) = O at *
 have v99' : (v != 99) = true := by simp; omega
 generalize hP6 : ({ p with t := t2, mode := 0, anchor := 0, pl := clm t2 q } : Pg) = P6 at *
 generalize hP5 : ({ p with t := t2, mode := 0, anchor := 0 } : Pg) = P5 at *
 generalize hP4 : ({ p with t := t2 } : Pg) = P4 at *
 have q4 : P4.regs = .map (some m) := by rw [← hP4]; exact hm
 have q4r : P4.reg = p.reg := by rw [← hP4]
 clear hP4 hP5 hP6
 have H := h
 obtain ⟨c0, c1, c2, c3, c4, c5, c6, c7, c8, c9, fz, lt⟩ := h.dk
 obtain ⟨b0, b1, b2, b3, b4, b5, bz, bl⟩ := h.bg
 clear c2 c3 c4 c5 c6 c7 c8 c9 b1 b2 b3 b4 b5 h
 have l1 : r < w.heap.size + 1 := by omega
 have l2 : d < w.heap.size + 1 := by omega
 have l3 : ¬ w.heap.size = d := by omega
 have l4 : ¬ w.heap.size = r := by omega
 go_enter func146, ntmps146
 go_wp2_with fail
 refine (HN.out _).mono ?_
 rintro e w1 ⟨rfl, h1⟩
 obtain ⟨hc1, hf1, hz1⟩ := qb h1
 try simp at hz1
 have d0 : w1.cell? ⟨d, 0, none⟩ = some (.string p.t) := by rw [hc1 _ _ qs]; go_simp
 have d1 : w1.cell? ⟨d, 1, none⟩ = some (.int .i64 p.pl) := by rw [hc1 _ _ qs]; go_simp
 have r0 : w1.cell? ⟨r, 0, none⟩ = some (.pointer (some ⟨d, 0, none⟩)) := by rw [hc1 _ _ qs]; go_simp
 have p0 : w1.cell? ⟨w.heap.size, 0, none⟩ = some (.int .i64 i) := by rw [hc1 _ _ qi]; simp
 have p1 : w1.cell? ⟨w.heap.size, 1, none⟩ = some (.int .i64 j) := by rw [hc1 _ _ qi]; simp
 have p2 : w1.cell? ⟨w.heap.size, 2, none⟩ = some (.bool l) := by rw [hc1 _ _ qi]; simp
 have k1 : r < w1.heap.size := by omega
 have k2 : d < w1.heap.size := by omega
 have k3 : w.heap.size < w1.heap.size := by omega
 clear hc1 hf1
 go_wp2_with fail
 go_region_held3 (fun ww => ww.cell? ⟨r, 0, none⟩ = some (.pointer (some ⟨d, 0, none⟩)) ∧ ww.cell? ⟨d, 0, none⟩ = some (.string p.t) ∧ ww.cell? ⟨w.heap.size, 0, none⟩ = some (.int .i64 i) ∧ ww.cell? ⟨w.heap.size, 1, none⟩ = some (.int .i64 j) ∧ ww.cell? ⟨w.heap.size, 2, none⟩ = some (.bool l)) (exact qK) (first | (go_at_call 173; with_reducible refine Calls.mono (HT.out (w1.alloc (.cells #[.string ⟨#[]⟩, .bool false] 99)).drew) ?_; rintro r2 w2 ⟨rfl, h2⟩; obtain ⟨hc2, hf2, hz2⟩ := qb h2; simp at hz2; have hn0 : w2.cell? ⟨w1.heap.size, 0, none⟩ = some (.string ⟨#[]⟩) := (hc2 (w1.heap.size) 0 qi).trans qi; have hn1 : w2.cell? ⟨w1.heap.size, 1, none⟩ = some (.bool false) := (hc2 (w1.heap.size) 1 qi).trans qi; have hq2 : ∀ o, w2.frozen? ⟨w1.heap.size, o, none⟩ = false := (fun o => (hf2 (w1.heap.size) o qi).trans qi); clear hc2 hf2) | (go_at_call 173; with_reducible refine Calls.mono (HT.out w1.drew) ?_; rintro r2 w2 ⟨rfl, h2⟩; have hz2 := h2.size; simp at hz2))
 rename_i hHeld
 have E : DoAt w (w2.alloc (.cells #[.string X, .bool l] 99)) r d m w.heap.size w2.heap.size p f i j l X := by
  exact qt33
 clear hHeld h1 h2 hz2 hg H d0 d1 r0 p0 p1 p2
 generalize (w2.alloc (.cells #[.string X, .bool l] 99)) = W at *
 generalize w2.heap.size = k at *
 rotate_left
 rename_i hHeld
 have E : DoAt w ((w2.setCell ⟨w1.heap.size, 0, none⟩ (.string X)).setCell ⟨w1.heap.size, 1, none⟩ (.bool l)) r d m w.heap.size w1.heap.size p f i j l X := by
  exact qt26
 clear hHeld h1 h2 hz2 hg H d0 d1 r0 p0 p1 p2
 generalize ((w2.setCell ⟨w1.heap.size, 0, none⟩ (.string X)).setCell ⟨w1.heap.size, 1, none⟩ (.bool l)) = W at *
 generalize w1.heap.size = k at *
 rotate_left
 all_goals
  obtain ⟨rd, rg, p0, p1, p2, x0, x1, lb, lk, up, lw⟩ := E
  have H := rd
  have r0 := rd.bg.c0
  have d0 := rd.dk.c0
  have d1 := rd.dk.c1
  have hlr := rd.bg.lt
  have hld := rd.dk.lt
  go_wp2_with fail
  go_region_held3 (fun ww => ww.cell? ⟨r, 0, none⟩ = some (.pointer (some ⟨d, 0, none⟩)) ∧ ww.cell? ⟨d, 0, none⟩ = some (.string p.t) ∧ ww.cell? ⟨d, 1, none⟩ = some (.int .i64 p.pl) ∧ ww.cell? ⟨w.heap.size, 0, none⟩ = some (.int .i64 i) ∧ ww.cell? ⟨w.heap.size, 1, none⟩ = some (.int .i64 j) ∧ ww.cell? ⟨w.heap.size, 2, none⟩ = some (.bool l)) (exact qK) ((go_at_call 174; refine Calls.mono (HD.out _) ?_; rintro r3 w3 ⟨rfl, h3⟩; have hz3 := h3.size; (try simp at hz3); (try have ⟨hl3_0, hk3_0⟩ := qL d w3.heap.size); (try have ⟨hl3_1, hk3_1⟩ := qL r w3.heap.size); (try have ⟨hl3_2, hk3_2⟩ := qL w.heap.size w3.heap.size)))
  have H3 := (rd.drew).below h3
  have G3 := (rg.drew).below h3
  have y0 := memLater h3 (memLater ((Below.refl _ _).drew) x0)
  have y1 := memLater h3 (memLater ((Below.refl _ _).drew) x1)
  have up3 : Below w.heap.size w w3 := by
   repeat exact qB
  clear rd rg x0 x1 up h3 H r0 d0 d1
  go_wp2_with fail
  refine Calls.mono (HBc.out _ H3) ?_
  rintro e4 w4 ⟨rfl, H4, u4⟩
  have G4 : RgAt w4 m f := G3.of_block (u4.block m G3.lt (by simp; exact hmd))
  have z0 := u4.was y0 qs
  have z1 := u4.was y1 qs
  go_wp2_with fail
  refine Calls.mono (HWs.out _) ?_
  rintro e5 w5 ⟨rfl, h5⟩
  have H5 := H4.below h5
  have G5 := G4.below h5
  have x0 := memLater h5 z0
  have x1 := memLater h5 z1
  have r0 := H5.bg.c0
  have r1 := H5.bg.c1
  have d4 := H5.dk.c4
  rw [q4] at d4
  rw [q4r] at r1
  go_wp2_with fail
  go_region_held3 (fun ww => ww.cell? ⟨r, 0, none⟩ = some (.pointer (some ⟨d, 0, none⟩)) ∧ ww.cell? ⟨r, 1, none⟩ = some (.int .u8 p.reg) ∧ ww.cell? ⟨d, 4, none⟩ = some (.map (some m)) ∧ ww.cell? ⟨k, 0, none⟩ = some (.string X) ∧ ww.cell? ⟨k, 1, none⟩ = some (.bool l)) (exact qK) ((go_at_call 177; with_reducible refine Calls.mono (HWr.out _ (RgAt.drew G5)) ?_; rintro e6 w6 ⟨rfl, G6, u6⟩; have a0 := u6.was (memLater ((Below.refl _ _).drew) r0) (by simp; exact Ne.symm hmr); have a1 := u6.was (memLater ((Below.refl _ _).drew) r1) (by simp; exact Ne.symm hmr); have a2 := u6.was (memLater ((Below.refl _ _).drew) d4) (by simp; exact Ne.symm hmd); have a3 := u6.was (memLater ((Below.refl _ _).drew) x0) qs; have a4 := u6.was (memLater ((Below.refl _ _).drew) x1) qs))
  have H6 : RdAt w6 r d P4 := (H5.drew).upd u6 (by simp; exact Ne.symm hmr) (by simp; exact Ne.symm hmd)
  have U6 : Upd [d, m] w w6 := by
   refine Upd.trans (Upd.drew (Upd.below (Upd.trans (Upd.of_below up3) (Upd.mono u4 qi)) h5)) (Upd.mono u6 qi)
  clear G5 r0 r1 d4 x0 x1 z0 z1 y0 y1 G4 G3 H3 H4 H5 u4 h5 u6 up3
  go_wp2_with fail
  refine Calls.mono (HTN.out _ H6) ?_
  rintro e7 w7 ⟨rfl, H7, u7⟩
  have G7 : RgAt w7 m f2 := G6.of_block (u7.block m G6.lt (by simp; exact hmd))
  have r7 := H7.bg.c0
  go_wp2_with fail
  refine Calls.mono (HMv.out _ H7) ?_
  rintro e8 w8 ⟨rfl, H8, u8⟩
  have G8 : RgAt w8 m f2 := G7.of_block (u8.block m G7.lt (by simp; exact hmd))
  have U8 : Upd [d, m] w w8 := (U6.trans (u7.mono qi)).trans (u8.mono qi)
  clear u7 u8 U6 H7 H6 G7 G6
  rcases hO with ⟨hO, hO'⟩ | ⟨hO, hO'⟩
  ·subst hO hO'
   go_wp2
   go_ret
   exact ⟨rfl, H8, G8, U8⟩
  ·subst hO hO'
   go_wp2
   go_ret
   exact ⟨rfl, H8, G8, U8⟩
theorem press_endS {σ : Type} (b r d : Nat) (p : Pg) (key : Int) (O : σ → Int) (T : σ → ByteArray) (A : World → Prop) (B C D E : σ → World → Prop) (w : World) (hA : A w) (pA : HasB A b r d p) (pB : ∀ s ww, B s ww → ∃ tv dg, BdAt ww b r d tv dg)
  (pC : ∀ s ww, C s ww → ∃ tv dg p2, BdAt ww b r d tv dg ∧ RdAt ww r d p2 ∧ ¬ p2.mode = 1) (pD : ∀ s ww, D s ww → ∃ tv dg p2, BdAt ww b r d tv dg ∧ RdAt ww r d p2 ∧ p2.t = T s)
  (pE : ∀ s ww, E s ww → (∃ tv dg, BdAt ww b r d tv dg) ∧ ww.cell? ⟨r, 0, none⟩ = some (.pointer (some ⟨d, 0, none⟩)) ∧ ww.cell? ⟨d, 0, none⟩ = some (.string (T s))) (fD : ∀ s ww, D s ww → D s ww.drew)
  (HT : Hid (∀ ww, A ww → Calls Tryz.prog 46 #[.pointer (some ⟨b, 0, none⟩), .int .u8 key] ww fun e w' => ∃ s, e = .returned (.int .i64 (O s)) ∧ ¬ O s = 0 ∧ B s w'))
  (HK : Hid (∀ s, GivesT 47 #[.pointer (some ⟨b, 1, none⟩), .int .u8 key, .int .i64 p.mode] (B s) (C s)))
  (HE : Hid (∀ s, GivesT 48 #[.pointer (some ⟨b, 1, none⟩), .int .i64 (O s)] (C s) (D s)))
  (HH : Hid (∀ s, GivesT 49 #[.pointer (some ⟨d, 5, none⟩), .string (T s)] (D s) (E s))) :
  Calls Tryz.prog 38 #[.pointer (some ⟨b, 0, none⟩), .int .u8 key] w fun e w' => ∃ s, e = .returned (.int .i64 (O s)) ∧ E s w' := by
 obtain ⟨⟨tv, dg, HB⟩, HR⟩ := pA w hA
 have b0 := HB.c0
 have r0 := HR.bg.c0
 have d3 := HR.dk.c3
 have bl := HB.lt
 have rl := HR.bg.lt
 have dl := HR.dk.lt
 have pB' : Hid (∀ s ww, B s ww → ∃ tv dg, BdAt ww b r d tv dg) := pB
 have pC' : Hid (∀ s ww, C s ww → ∃ tv dg p2, BdAt ww b r d tv dg ∧ RdAt ww r d p2 ∧ ¬ p2.mode = 1) := pC
 have pD' : Hid (∀ s ww, D s ww → ∃ tv dg p2, BdAt ww b r d tv dg ∧ RdAt ww r d p2 ∧ p2.t = T s) := pD
 have pE' : Hid (∀ s ww, E s ww → (∃ tv dg, BdAt ww b r d tv dg) ∧ ww.cell? ⟨r, 0, none⟩ = some (.pointer (some ⟨d, 0, none⟩)) ∧ ww.cell? ⟨d, 0, none⟩ = some (.string (T s))) := pE
 clear pB pA pC pD pE
 go_enter func38, ntmps38
 go_wp2_with fail
 refine Calls.mono (HT.out _ hA) ?_
 rintro e w1 ⟨s, rfl, hO, h1⟩
 obtain ⟨tv1, dg1, B1⟩ := pB'.out s w1 h1
 have bl1 := B1.lt
 have hQ : Hid (∃ z, z = O s) := ⟨_, rfl⟩
 have HK1 := HK.out s
 have HE1 := HE.out s
 have HH1 := HH.out s
 generalize hOs : O s = Q at *
 generalize hTs : T s = X at *
 have hO' : (Q == 0) = false := by simp [hO]
 have hO2 : (Q != 0) = true := by simp [hO]
 clear hQ hO
 go_wp2_with fail
 refine Calls.mono (HK1.out _ h1) ?_
 rintro e w2 ⟨rfl, h2⟩
 obtain ⟨tv2, dg2, p2, B2, R2, hm⟩ := pC'.out s w2 h2
 have hm' : (p2.mode != 1) = true := by simp [hm]
 have hm2 : (p2.mode == 1) = false := by simp [hm]
 have e0 := B2.c0
 have e1 := R2.bg.c0
 have e2 := R2.dk.c3
 have bl2 := B2.lt
 clear h1 hm
 go_wp2_with fail
 refine Calls.mono (HE1.out _ h2) ?_
 rintro e w3 ⟨rfl, h3⟩
 obtain ⟨tv3, dg3, p3, B3, R3, ht⟩ := pD'.out s w3 h3
 have g0 := B3.c0
 have g1 := R3.bg.c0
 have g2 := R3.dk.c0
 rw [ht, hTs] at g2
 have D3 := fD s w3 h3
 clear h2 h3
 go_wp2_with fail
 go_region_held3 (fun ww => ww.cell? ⟨b, 0, none⟩ = some (.pointer (some ⟨r, 0, none⟩)) ∧ ww.cell? ⟨r, 0, none⟩ = some (.pointer (some ⟨d, 0, none⟩)) ∧ ww.cell? ⟨d, 0, none⟩ = some (.string X)) ((refine ⟨?_, ?_, ?_⟩ <;> (first | (go_simp; done) | (with_reducible assumption)))) ((go_at_call 49; refine Calls.mono (HH1.out _ D3) ?_; rintro e4 w4 ⟨rfl, h4⟩; obtain ⟨⟨tv4, dg4, B4⟩, q1, q2⟩ := pE'.out s w4 h4; rw [hTs] at q2; have q0 := B4.c0; have HE4 : Hid (E s w4) := h4; clear h4))
 go_wp2
 go_ret
 refine ⟨s, ?_, HE4.out⟩
 rw [hOs]
 rfl
