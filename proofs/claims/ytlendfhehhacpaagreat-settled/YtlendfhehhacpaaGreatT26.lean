/- A part. -/
import Derived.Test.YtlendfhehhacpaaGreatT19
import Derived.Test.YtlendfhehhacpaaGreatT16
set_option linter.unusedVariables false
set_option linter.unusedSimpArgs false
set_option maxRecDepth 100000
set_option maxHeartbeats 8000000
namespace Go.Proofs.YtlendfhehhacpaaGreat
open Go.RowKit Nib Tryz
theorem sWordEnd_any (s : ByteArray) (r : Nat) (g : Bool) (w : World) (hs : s.size ≤ 1000) (hr : r ≤ s.size) :
  qC 252 #[.string s, .int .i64 r, .bool g] w (.int .i64 (wes s g r)) := by
 by_cases he : r = s.size
 ·subst he
  rw [wes_end]
  go_enter func252, ntmps252
  go_wp2_with fail
  refine (tEnd_any s _).mono ?_
  rintro e w' ⟨rfl, rfl⟩
  go_wp2
  all_goals
   first
    | (exact qV (.int .i64 s.size) (by simp [results, results252, go_sem]) rfl)
 ·have hlt : r < s.size := by omega
  have HI : qH 282 #[.string s, .int .i64 ((r : Int) + 1), .bool false] (.int .i64 (Nib.up (Nib.sp s) s.size (r + 1) : Nat)) := by
   intro ww
   refine sNextInk_any s (r + 1) false (Nib.sp s) ww hs qo ?_ ?_ ?_
   ·intro i h; exact h
   ·intro i _ _ h _; exact h
   ·intro h; exact absurd h qi
  have hle : Nib.up (Nib.sp s) s.size (r + 1) ≤ s.size := up_le qo
  rw [wes_eq hlt]
  have hne : ((r : Int) == (s.size : Int)) = false := by simp; omega
  clear he
  by_cases hq : Nib.up (Nib.sp s) s.size (r + 1) = s.size
  ·rw [if_pos hq]
   rw [hq] at HI
   clear hq hle
   go_enter func252, ntmps252
   go_wp2_with fail
   refine (tEnd_any s _).mono ?_
   rintro e w' ⟨rfl, rfl⟩
   go_wp2_with fail
   refine (HI.out _).mono ?_
   rintro e w1 ⟨rfl, h1⟩
   obtain ⟨hc1, hf1, hz1⟩ := qb h1
   try simp at hz1
   go_wp2_with fail
   refine (tEnd_any s _).mono ?_
   rintro e w' ⟨rfl, rfl⟩
   go_wp2
   all_goals
    first
     | (exact qV (.int .i64 r) (by simp [results, results252, go_sem]) rfl)
  ·rw [if_neg hq]
   have hql : Nib.up (Nib.sp s) s.size (r + 1) < s.size := by omega
   have hsp : Nib.sp s (Nib.up (Nib.sp s) s.size (r + 1)) = false := up_end hql
   generalize Nib.up (Nib.sp s) s.size (r + 1) = q at *
   have hnl : bt s q ≠ 10 := by have := spc_nl_f (s := s) (i := q) hsp; unfold Nib.nl at this; simpa using this
   have HR : qH 256 #[.string s, .int .i64 q, .bool g] (.agg #[.int .i64 (runB s q g), .int .i64 (wrun s q g)]) := fun ww => tRun_any s q q g ww hs rfl hql hnl
   have hgt := wrun_gt (g := g) hql
   have hwl := wrun_le (g := g) (show q ≤ s.size by omega)
   have hx := ix1 (runB s q g) (wrun s q g)
   clear hsp hnl
   generalize runB s q g = A at *
   generalize wrun s q g = B at *
   have hne2 : ((q : Int) == (s.size : Int)) = false := by simp; omega
   go_enter func252, ntmps252
   go_wp2_with fail
   refine (tEnd_any s _).mono ?_
   rintro e w' ⟨rfl, rfl⟩
   go_wp2_with fail
   refine (HI.out _).mono ?_
   rintro e w1 ⟨rfl, h1⟩
   obtain ⟨hc1, hf1, hz1⟩ := qb h1
   try simp at hz1
   go_wp2_with fail
   refine (tEnd_any s _).mono ?_
   rintro e w' ⟨rfl, rfl⟩
   go_wp2_with fail
   refine (HR.out _).mono ?_
   rintro e w2 ⟨rfl, h2⟩
   obtain ⟨hc2, hf2, hz2⟩ := qb h2
   try simp at hz2
   go_wp2
   all_goals
    first
     | (exact qV (.int .i64 ((B : Int) - 1)) (by simp [results, results252, go_sem]) (ret_int qo))
theorem sToWordEnd_any (s : ByteArray) (p n : Nat) (v c g : Bool) (w : World) (hs : s.size ≤ 1000) (hp : p ≤ s.size) (hn : n ≤ 99) :
  qC 210 #[.agg #[.string s, .int .i64 (p), .int .i64 (n), .bool v, .bool c], .bool g] w (.tuple #[.agg #[.int .i64 (wayX (endWay s g (max n 1) (p : Int))), .int .i64 (wayK (endWay s g (max n 1) (p : Int)))], .bool (wayZ (endWay s g (max n 1) (p : Int)))]) := by
 have HP : Hid (∀ (q : Nat), q ≤ s.size → ∀ ww, qC 252 #[.string s, .int .i64 q, .bool g] ww (.int .i64 (wes s g q))) := fun q hq ww => sWordEnd_any s q g ww hs hq
 have HN : qH 241 #[.agg #[.string s, .int .i64 (p), .int .i64 (n), .bool v, .bool c]] (.int .i64 ((max n 1 : Nat) : Int)) := by
  exact qt45
 have hN1 : 1 ≤ max n 1 := by omega
 have hN2 : max n 1 ≤ 99 := by omega
 generalize max n 1 = N at *
 have HU : qH 240 #[.agg #[.string s, .int .i64 (p), .int .i64 (n), .bool v, .bool c], .int .i64 (itr (wes s g) N p : Nat), .int .i64 1] (.tuple #[.agg #[.int .i64 (wayX (endWay s g N (p : Int))), .int .i64 (wayK (endWay s g N (p : Int)))], .bool (wayZ (endWay s g N (p : Int)))]) := by
  intro ww
  refine sUnless_way s p n _ 1 v c ww ?_
  have := endWay_itr s g p N hN1
  exact ⟨this.1.symm, fun h => ⟨(this.2 (this.1.trans h)).1.symm, (this.2 (this.1.trans h)).2.symm⟩⟩
 generalize endWay s g N (p : Int) = R at *
 go_enter func210, ntmps210
 have F : Five ((w.alloc (.cells #[.string s, .int .i64 (p), .int .i64 (n), .bool v, .bool c] 206)).alloc (.cells #[.int .i64 0, .int .i64 0] 202)) w.heap.size s p n v c := Five.alloc (Five.new _ _ _ _ _ _ _) _
 have RB : Two ((w.alloc (.cells #[.string s, .int .i64 (p), .int .i64 (n), .bool v, .bool c] 206)).alloc (.cells #[.int .i64 0, .int .i64 0] 202)) (w.heap.size + 1) 0 0 := qN
 go_wp2_with fail
 refine (HN.out _).mono ?_
 rintro r1 w1 ⟨rfl, h1⟩
 obtain ⟨hc1, hf1, hz1⟩ := qb h1
 (try simp at hz1)
 have F1 : Five w1 (w.heap.size) s p n v c := qF
 have ⟨F1_0, F1_1, F1_2, F1_3, F1_4, F1_z, F1_l⟩ := F1
 have RB1 : Two w1 (w.heap.size + 1) (0) (0) := qTw
 have ⟨RB1_0, RB1_1, RB1_z, RB1_l⟩ := RB1
 go_wp2
 go_loopw [6, 11] (fun q i wr => ∃ k : Nat, k ≤ N ∧ q = .int .i64 (itr (wes s g) k p : Nat) ∧ i = .int .i64 k ∧ Five wr w.heap.size s p n v c ∧ Two wr (w.heap.size + 1) 0 0 ∧ Below w.heap.size w wr) (fun _ i _ => N - (intOf i).toNat)
 case atStart =>
  refine ⟨0, by omega, rfl, rfl, F1, RB1, ?_⟩
  repeat exact qB
 case round =>
  clear F RB h1 hc1 hf1 F1_0 F1_1 F1_2 F1_3 F1_4 F1_z F1_l RB1_0 RB1_1 RB1_z RB1_l
  obtain ⟨k, hk, rfl, rfl, F, RB, hB⟩ := hrel
  have hq := itr_wes_le (g := g) hp k
  have ⟨f0, f1, f2, f3, f4, fz, fl⟩ := F
  have r0 := (RB).c0
  have r1 := (RB).c1
  have rz := (RB).fz
  have rl := (RB).lt
  have hzz := hB.size
  by_cases hlt : k < N
  ·have HS : qH 252 #[.string s, .int .i64 (itr (wes s g) k p : Nat), .bool g] (.int .i64 (itr (wes s g) (k + 1) p : Nat)) := fun ww => HP.out _ hq ww
   generalize hA : itr (wes s g) (k + 1) p = A at *
   exact qt34
  ·have ek : k = N := by omega
   subst ek
   generalize itr (wes s g) k p = A at *
   go_wp2_with fail
   refine (HU.out _).mono ?_
   rintro r2 w2 ⟨rfl, h2⟩
   obtain ⟨hc2, hf2, hz2⟩ := qb h2
   (try simp at hz2)
   have RB2 : Two w2 (w.heap.size + 1) (0) (0) := qTw
   have ⟨RB2_0, RB2_1, RB2_z, RB2_l⟩ := RB2
   go_wp2
   all_goals
    first
     | (exact qV (.tuple #[.agg #[.int .i64 (wayX (R)), .int .i64 (wayK (R))], .bool (wayZ (R))]) (by simp [results, results210, go_sem, RB2_0, RB2_1, RB2_z, RB2_l]) rfl)
theorem qt37 {P : Prop} (h : P := by
  clear hc4 hf4 hc5 hf5
  go_wp2
  all_goals
   first
    | (exact qV (.tuple #[.agg #[.int .i64 (wayX (R)), .int .i64 (wayK (R))], .bool (wayZ (R))]) (by simp [results, results208, go_sem, RB5_0, RB5_1, RB5_z, RB5_l]) rfl)
 ) : P := h
theorem sToWord_plain (s : ByteArray) (p n : Nat) (g : Bool) (w : World) (hs : s.size ≤ 1000) (hp : p ≤ s.size) (hn : n ≤ 99) :
  qC 208 #[.agg #[.string s, .int .i64 (p), .int .i64 (n), .bool false, .bool false], .bool g] w (.tuple #[.agg #[.int .i64 (wayX (((wordQ s p (max n 1) g false : Int), 0, (wordQ s p (max n 1) g false : Int) == (p : Int)))), .int .i64 (wayK (((wordQ s p (max n 1) g false : Int), 0, (wordQ s p (max n 1) g false : Int) == (p : Int))))], .bool (wayZ (((wordQ s p (max n 1) g false : Int), 0, (wordQ s p (max n 1) g false : Int) == (p : Int))))]) := by
 have HP : Hid (∀ (q : Nat), q ≤ s.size → ∀ ww, qC 249 #[.string s, .int .i64 q, .bool g] ww (.int .i64 (wstep s g q))) := fun q hq ww => sWordStep_any s q g ww hs hq
 have HN : qH 241 #[.agg #[.string s, .int .i64 (p), .int .i64 (n), .bool false, .bool false]] (.int .i64 ((max n 1 : Nat) : Int)) := by
  intro ww
  have := sNumber_any s p n false false ww
  rw [show max (n : Int) 1 = ((max n 1 : Nat) : Int) by omega] at this
  exact this
 have hN1 : 1 ≤ max n 1 := by omega
 have hN2 : max n 1 ≤ 99 := by omega
 generalize max n 1 = N at *
 have HU : qH 240 #[.agg #[.string s, .int .i64 (p), .int .i64 (n), .bool false, .bool false], .int .i64 (wordQ s p N g false : Nat), .int .i64 0] (.tuple #[.agg #[.int .i64 (wayX (((wordQ s p N g false : Int), 0, (wordQ s p N g false : Int) == (p : Int)))), .int .i64 (wayK (((wordQ s p N g false : Int), 0, (wordQ s p N g false : Int) == (p : Int))))], .bool (wayZ (((wordQ s p N g false : Int), 0, (wordQ s p N g false : Int) == (p : Int))))]) := fun ww => sUnless_any s p n _ 0 false false ww
 generalize (((wordQ s p N g false : Nat) : Int), (0 : Int), (((wordQ s p N g false : Nat) : Int) == (p : Int))) = R at *
 have hlast := beg_le s s.size
 have HLast : qH 195 #[.string s, .int .i64 s.size] (.agg #[.int .i64 (beg s s.size), .int .i64 (fin s s.size)]) := fun ww => tLine_any s s.size s.size ww hs rfl (Nat.le_refl _)
 have hfl := fin_le (Nat.le_refl s.size)
 have HT : qH 202 #[.agg #[.int .i64 (beg s s.size), .int .i64 (fin s s.size)]] (.int .i64 (lst s s.size : Nat)) := by
  intro ww; rw [lst_max]; exact tLast_any _ _ ww qo
 have HEnd : qH 246 #[.string s] (.int .i64 s.size) := by
  intro ww
  refine (tEnd_any s ww).mono ?_
  rintro e w' ⟨rfl, rfl⟩
  exact ⟨rfl, Below.refl _ _⟩
 have HV : Hid (((wordQ s p N g false : Nat) : Int) = if ((lst s s.size : Nat) : Int) < ((itr (wstep s g) N p : Nat) : Int) then ((lst s s.size : Nat) : Int) else ((itr (wstep s g) N p : Nat) : Int)) := by
  rw [Hid]
  unfold wordQ
  rw [if_neg qi]
  obtain ⟨k, rfl⟩ : ∃ k, N = k + 1 := ⟨N - 1, by omega⟩
  exact clm_word (itr_w_le hp k)
 generalize lst s s.size = LL at *
 generalize beg s s.size = LB at *
 generalize fin s s.size = LF at *
 go_enter func208, ntmps208
 have F : Five ((w.alloc (.cells #[.string s, .int .i64 (p), .int .i64 (n), .bool false, .bool false] 206)).alloc (.cells #[.int .i64 0, .int .i64 0] 202)) w.heap.size s p n false false := Five.alloc (Five.new _ _ _ _ _ _ _) _
 have RB : Two ((w.alloc (.cells #[.string s, .int .i64 (p), .int .i64 (n), .bool false, .bool false] 206)).alloc (.cells #[.int .i64 0, .int .i64 0] 202)) (w.heap.size + 1) 0 0 := qN
 go_wp2_with fail
 go_region
 go_wp2_with fail
 refine (HN.out _).mono ?_
 rintro r1 w1 ⟨rfl, h1⟩
 obtain ⟨hc1, hf1, hz1⟩ := qb h1
 (try simp at hz1)
 have F1 : Five w1 (w.heap.size) s p n false false := qF
 have ⟨F1_0, F1_1, F1_2, F1_3, F1_4, F1_z, F1_l⟩ := F1
 have RB1 : Two w1 (w.heap.size + 1) (0) (0) := qTw
 have ⟨RB1_0, RB1_1, RB1_z, RB1_l⟩ := RB1
 go_wp2
 go_loopw [7, 27] (fun q i wr => ∃ k : Nat, k ≤ N ∧ q = .int .i64 (itr (wstep s g) k p : Nat) ∧ i = .int .i64 k ∧ Five wr w.heap.size s p n false false ∧ Two wr (w.heap.size + 1) 0 0 ∧ Below w.heap.size w wr) (fun _ i _ => N - (intOf i).toNat)
 case atStart =>
  refine ⟨0, by omega, rfl, rfl, F1, RB1, ?_⟩
  repeat exact qB
 case round =>
  clear F RB h1 hc1 hf1 F1_0 F1_1 F1_2 F1_3 F1_4 F1_z F1_l RB1_0 RB1_1 RB1_z RB1_l
  obtain ⟨k, hk, rfl, rfl, F, RB, hB⟩ := hrel
  have hq := itr_w_le (g := g) hp k
  have ⟨f0, f1, f2, f3, f4, fz, fl⟩ := F
  have r0 := (RB).c0
  have r1 := (RB).c1
  have rz := (RB).fz
  have rl := (RB).lt
  have hzz := hB.size
  by_cases hlt : k < N
  ·have HS : qH 249 #[.string s, .int .i64 (itr (wstep s g) k p : Nat), .bool g] (.int .i64 (itr (wstep s g) (k + 1) p : Nat)) := fun ww => HP.out _ hq ww
   generalize hA : itr (wstep s g) (k + 1) p = A at *
   go_wp2_with fail
   refine (HS.out _).mono ?_
   rintro r2 w2 ⟨rfl, h2⟩
   obtain ⟨hc2, hf2, hz2⟩ := qb h2
   (try simp at hz2)
   have F2 : Five w2 (w.heap.size) s p n false false := qF
   exact qt74
  ·have ek : k = N := by omega
   subst ek
   rw [HV.out] at HU
   clear HV
   generalize itr (wstep s g) k p = A at *
   have hcast : (if (LL : Int) < (A : Int) then (LL : Int) else (A : Int)) = (if LL < A then (LL : Int) else (A : Int)) := by split <;> split <;> omega
   rw [hcast] at HU
   clear hcast
   generalize hX : (if LL < A then (LL : Int) else (A : Int)) = X at HU
   have s0 := f0; have s1 := f1; have s2 := f2; have s3 := f3; have s4 := f4
   go_wp2_with fail
   go_region_held3 (fun ww => ww.cell? ⟨w.heap.size, 0, none⟩ = some (.string s) ∧ ww.cell? ⟨w.heap.size, 1, none⟩ = some (.int .i64 p) ∧ ww.cell? ⟨w.heap.size, 2, none⟩ = some (.int .i64 n) ∧ ww.cell? ⟨w.heap.size, 3, none⟩ = some (.bool false) ∧ ww.cell? ⟨w.heap.size, 4, none⟩ = some (.bool false)) ((refine ⟨?_, ?_, ?_, ?_, ?_⟩ <;> (first | ((repeat exact qM); done) | (go_simp; done)))) (first | (go_at_call 246; refine (HEnd.out _).mono ?_; rintro r2 w2 ⟨rfl, h2⟩; obtain ⟨hc2, hf2, hz2⟩ := qb h2; (try simp at hz2); (try have ⟨hl2_0, hk2_0⟩ := qL w.heap.size w2.heap.size); (try have ⟨hl2_1, hk2_1⟩ := qL wr.heap.size w2.heap.size); (try have ⟨hl2_2, hk2_2⟩ := qL w2.heap.size w2.heap.size); have RB2 : Two w2 (w.heap.size + 1) (0) (0) := qTw; have ⟨RB2_0, RB2_1, RB2_z, RB2_l⟩ := RB2) | (go_at_call 195; refine (HLast.out _).mono ?_; rintro r3 w3 ⟨rfl, h3⟩; obtain ⟨hc3, hf3, hz3⟩ := qb h3; (try simp at hz3); (try have ⟨hl3_0, hk3_0⟩ := qL w.heap.size w3.heap.size); (try have ⟨hl3_1, hk3_1⟩ := qL wr.heap.size w3.heap.size); (try have ⟨hl3_2, hk3_2⟩ := qL w2.heap.size w3.heap.size); have RB3 : Two w3 (w.heap.size + 1) (0) (0) := qTw; have ⟨RB3_0, RB3_1, RB3_z, RB3_l⟩ := RB3))
   ·have T : Two (w3.alloc (.cells #[.int .i64 LB, .int .i64 LF] 128)) (w3.heap.size) LB LF := Two.new _ _ _ _
    have t0 := T.c0
    have t1 := T.c1
    clear hc2 hf2 hc3 hf3 HP HN HEnd HLast F f0 f1 f2 f3 f4
    go_wp2_with fail
    go_region_held3 (fun ww => ww.cell? ⟨w.heap.size, 0, none⟩ = some (.string s) ∧ ww.cell? ⟨w.heap.size, 1, none⟩ = some (.int .i64 p) ∧ ww.cell? ⟨w.heap.size, 2, none⟩ = some (.int .i64 n) ∧ ww.cell? ⟨w.heap.size, 3, none⟩ = some (.bool false) ∧ ww.cell? ⟨w.heap.size, 4, none⟩ = some (.bool false) ∧ ww.cell? ⟨w3.heap.size, 0, none⟩ = some (.int .i64 LB) ∧ ww.cell? ⟨w3.heap.size, 1, none⟩ = some (.int .i64 LF)) ((refine ⟨?_, ?_, ?_, ?_, ?_, ?_, ?_⟩ <;> (first | ((repeat exact qM); done) | (go_simp; done)))) (first | (go_at_call 202; refine (HT.out _).mono ?_; rintro r4 w4 ⟨rfl, h4⟩; obtain ⟨hc4, hf4, hz4⟩ := qb h4; (try simp at hz4); (try have ⟨hl4_0, hk4_0⟩ := qL w.heap.size w4.heap.size); (try have ⟨hl4_1, hk4_1⟩ := qL w3.heap.size w4.heap.size); have RB4 : Two w4 (w.heap.size + 1) (0) (0) := qTw; have ⟨RB4_0, RB4_1, RB4_z, RB4_l⟩ := RB4) | (go_at_call 240; refine (HU.out _).mono ?_; rintro r5 w5 ⟨rfl, h5⟩; obtain ⟨hc5, hf5, hz5⟩ := qb h5; (try simp at hz5); (try have ⟨hl5_0, hk5_0⟩ := qL w.heap.size w5.heap.size); (try have ⟨hl5_1, hk5_1⟩ := qL w3.heap.size w5.heap.size); have RB5 : Two w5 (w.heap.size + 1) (0) (0) := qTw; have ⟨RB5_0, RB5_1, RB5_z, RB5_l⟩ := RB5))
    exact qt37
   ·have Tb : Two w3 (w2.heap.size) 0 0 := Two.below (Two.new _ 0 0 _) h3
    have e0 := (Tb).c0
    have e1 := (Tb).c1
    have ez := (Tb).fz
    have el := (Tb).lt
    have T : Two ((w3.setCell ⟨w2.heap.size, 0, none⟩ (.int .i64 LB)).setCell ⟨w2.heap.size, 1, none⟩ (.int .i64 LF)) (w2.heap.size) LB LF := Two.set1 (Two.set0 Tb _) _
    have t0 := T.c0
    have t1 := T.c1
    clear hc2 hf2 hc3 hf3 HP HN HEnd HLast F f0 f1 f2 f3 f4
    go_wp2_with fail
    go_region_held3 (fun ww => ww.cell? ⟨w.heap.size, 0, none⟩ = some (.string s) ∧ ww.cell? ⟨w.heap.size, 1, none⟩ = some (.int .i64 p) ∧ ww.cell? ⟨w.heap.size, 2, none⟩ = some (.int .i64 n) ∧ ww.cell? ⟨w.heap.size, 3, none⟩ = some (.bool false) ∧ ww.cell? ⟨w.heap.size, 4, none⟩ = some (.bool false) ∧ ww.cell? ⟨w2.heap.size, 0, none⟩ = some (.int .i64 LB) ∧ ww.cell? ⟨w2.heap.size, 1, none⟩ = some (.int .i64 LF)) ((refine ⟨?_, ?_, ?_, ?_, ?_, ?_, ?_⟩ <;> (first | ((repeat exact qM); done) | (go_simp; done)))) (first | (go_at_call 202; refine (HT.out _).mono ?_; rintro r4 w4 ⟨rfl, h4⟩; obtain ⟨hc4, hf4, hz4⟩ := qb h4; (try simp at hz4); (try have ⟨hl4_0, hk4_0⟩ := qL w.heap.size w4.heap.size); (try have ⟨hl4_1, hk4_1⟩ := qL w2.heap.size w4.heap.size); have RB4 : Two w4 (w.heap.size + 1) (0) (0) := qTw; have ⟨RB4_0, RB4_1, RB4_z, RB4_l⟩ := RB4) | (go_at_call 240; refine (HU.out _).mono ?_; rintro r5 w5 ⟨rfl, h5⟩; obtain ⟨hc5, hf5, hz5⟩ := qb h5; (try simp at hz5); (try have ⟨hl5_0, hk5_0⟩ := qL w.heap.size w5.heap.size); (try have ⟨hl5_1, hk5_1⟩ := qL w2.heap.size w5.heap.size); have RB5 : Two w5 (w.heap.size + 1) (0) (0) := qTw; have ⟨RB5_0, RB5_1, RB5_z, RB5_l⟩ := RB5))
    exact qt37
   ·have Tb : Two w3 (wr.heap.size) 0 0 := Two.below (Two.below (Two.drew (Two.new _ 0 0 _)) h2) h3
    have e0 := (Tb).c0
    have e1 := (Tb).c1
    have ez := (Tb).fz
    have el := (Tb).lt
    have T : Two ((w3.setCell ⟨wr.heap.size, 0, none⟩ (.int .i64 LB)).setCell ⟨wr.heap.size, 1, none⟩ (.int .i64 LF)) (wr.heap.size) LB LF := Two.set1 (Two.set0 Tb _) _
    have t0 := T.c0
    have t1 := T.c1
    clear hc2 hf2 hc3 hf3 HP HN HEnd HLast F f0 f1 f2 f3 f4
    go_wp2_with fail
    go_region_held3 (fun ww => ww.cell? ⟨w.heap.size, 0, none⟩ = some (.string s) ∧ ww.cell? ⟨w.heap.size, 1, none⟩ = some (.int .i64 p) ∧ ww.cell? ⟨w.heap.size, 2, none⟩ = some (.int .i64 n) ∧ ww.cell? ⟨w.heap.size, 3, none⟩ = some (.bool false) ∧ ww.cell? ⟨w.heap.size, 4, none⟩ = some (.bool false) ∧ ww.cell? ⟨wr.heap.size, 0, none⟩ = some (.int .i64 LB) ∧ ww.cell? ⟨wr.heap.size, 1, none⟩ = some (.int .i64 LF)) ((refine ⟨?_, ?_, ?_, ?_, ?_, ?_, ?_⟩ <;> (first | ((repeat exact qM); done) | (go_simp; done)))) (first | (go_at_call 202; refine (HT.out _).mono ?_; rintro r4 w4 ⟨rfl, h4⟩; obtain ⟨hc4, hf4, hz4⟩ := qb h4; (try simp at hz4); (try have ⟨hl4_0, hk4_0⟩ := qL w.heap.size w4.heap.size); (try have ⟨hl4_1, hk4_1⟩ := qL wr.heap.size w4.heap.size); have RB4 : Two w4 (w.heap.size + 1) (0) (0) := qTw; have ⟨RB4_0, RB4_1, RB4_z, RB4_l⟩ := RB4) | (go_at_call 240; refine (HU.out _).mono ?_; rintro r5 w5 ⟨rfl, h5⟩; obtain ⟨hc5, hf5, hz5⟩ := qb h5; (try simp at hz5); (try have ⟨hl5_0, hk5_0⟩ := qL w.heap.size w5.heap.size); (try have ⟨hl5_1, hk5_1⟩ := qL wr.heap.size w5.heap.size); have RB5 : Two w5 (w.heap.size + 1) (0) (0) := qTw; have ⟨RB5_0, RB5_1, RB5_z, RB5_l⟩ := RB5))
    exact qt37
def mkP (p : Pg) (i j : Nat) (l : Bool) : Pg := if i = j ∧ l = false then p else { p with pl := clm p.t (if l then beg p.t j else max i (j - 1)), anchor := i }
def mkO (i j : Nat) (l : Bool) : Int := if i = j ∧ l = false then 4 else 1
theorem qt47 {P : Prop} (h : P := by
  have H3 := h3
  have a5 := u3.was (b := w.heap.size) (o := 0) (v := .int .i64 i) (memLater h2 (memLater ((Below.refl _ _).drew) g0)) qs
  have U3 : Upd [d] w w3 := by
   repeat exact qU
  have z3 := U3.size
  have k3 : w.heap.size < w3.heap.size := by have := u3.size; have := h2.size; simp at this; omega
  clear h1 h2 u3 g0 g1 g2 a2 a1 r1 d1 H1
  have r3 := H3.bg.c0
  have d3 := H3.dk.c2
  have dz := H3.dk.fz
  have dl3 := H3.dk.lt
  have rl3 := H3.bg.lt
  go_wp2_with fail
  go_region_held3 (fun ww => ww.cell? ⟨r, 0, none⟩ = some (.pointer (some ⟨d, 0, none⟩)) ∧ ww.cell? ⟨w.heap.size, 0, none⟩ = some (.int .i64 i)) (exact qK) (fail)
  have HS2 := HS.out _ H3
  exact qt15
 ) : P := h
theorem mMarkAll (r d : Nat) (p : Pg) (i j : Nat) (l : Bool) (w : World) (h : RdAt w r d p) (hs : p.t.size ≤ 1000) (hij : i ≤ j) (hj : j ≤ p.t.size) :
  Calls Tryz.prog 213 #[.pointer (some ⟨r, 0, none⟩), .agg #[.int .i64 i, .int .i64 j, .bool l]] w fun e w' => e = .returned (.int .i64 (mkO i j l)) ∧ RdAt w' r d (mkP p i j l) ∧ Upd [d] w w' := by
 have H := h
 have b0 := h.bg.c0
 have bl := h.bg.lt
 have c0 := h.dk.c0
 have dl := h.dk.lt
 have l1 : r < w.heap.size + 1 := by omega
 have l2 : d < w.heap.size + 1 := by omega
 have HN := fun ww => tNothing_any i j l ww
 unfold mkP mkO
 by_cases hn : i = j ∧ l = false
 ·rw [if_pos hn, if_pos hn]
  obtain ⟨e1, e2⟩ := hn
  subst e1 e2
  have HN2 : qH 172 #[.agg #[.int .i64 i, .int .i64 i, .bool false]] (.bool true) := by
   intro ww
   have := HN ww
   rw [show (((i : Int) == i) && !false) = true by simp] at this
   exact this
  clear HN
  go_enter func213, ntmps213
  go_wp2_with fail
  refine (HN2.out _).mono ?_
  rintro e w1 ⟨rfl, h1⟩
  obtain ⟨hc1, hf1, hz1⟩ := qb h1
  try simp at hz1
  exact qt15
 ·rw [if_neg hn, if_neg hn]
  have HN2 : qH 172 #[.agg #[.int .i64 i, .int .i64 j, .bool l]] (.bool false) := by
   intro ww
   have := HN ww
   rw [show (((i : Int) == j) && !l) = false by
    rw [Bool.and_eq_false_iff]
    by_cases e : i = j
    ·right; cases l
     ·exact absurd ⟨e, rfl⟩ hn
     ·rfl
    ·left; simp; omega] at this
   exact this
  clear HN hn
  have HLi : qH 195 #[.string p.t, .int .i64 j] (.agg #[.int .i64 (beg p.t j), .int .i64 (fin p.t j)]) := fun ww => tLine_any p.t j j ww hs rfl hj
  have HLa : qH 202 #[.agg #[.int .i64 (i), .int .i64 (j)]] (.int .i64 ((max i (j - 1) : Nat) : Int)) := by
   intro ww
   have := tLast_any i j ww qo
   rw [show max (i : Int) (j - 1) = ((max i (j - 1) : Nat) : Int) by omega] at this
   exact this
  have hbl := beg_le p.t j
  have hpl : (if l then beg p.t j else max i (j - 1)) ≤ p.t.size := by split <;> omega
  obtain ⟨P, hP, hP2⟩ : ∃ P : Nat, P = (if l then beg p.t j else max i (j - 1)) ∧ ((l = true ∧ P = beg p.t j) ∨ (l = false ∧ P = max i (j - 1))) := ⟨_, rfl, by cases l <;> simp⟩
  rw [← hP] at hpl ⊢
  have HM : Hid (∀ ww, RdAt ww r d p → Calls Tryz.prog 179 #[.pointer (some ⟨d, 0, none⟩), .int .i64 P] ww fun e w' => e = .returned (.tuple #[]) ∧ RdAt w' r d { p with pl := clm p.t P } ∧ Upd [d] ww w') := fun ww hh => mMoveTo r d p P P ww hh hs rfl hpl
  have HS : Hid (∀ ww, RdAt ww r d { p with pl := clm p.t P } → RdAt (ww.setCell ⟨d, 2, none⟩ (.int .i64 i)) r d { p with pl := clm p.t P, anchor := i }) := fun ww hh => hh.set_anchor i
  have hx := ix0 (beg p.t j) (fin p.t j)
  generalize hp2 : ({ p with pl := clm p.t P, anchor := i } : Pg) = p2 at *
  generalize hp3 : ({ p with pl := clm p.t P } : Pg) = p3 at *
  generalize beg p.t j = LB at *
  generalize fin p.t j = LE at *
  generalize max i (j - 1) = MX at *
  have q3 : p3.t = p.t := by rw [← hp3]
  clear hp2 hp3 hP hbl
  rcases hP2 with ⟨el, eP⟩ | ⟨el, eP⟩
  ·subst el eP
   go_enter func213, ntmps213
   go_wp2_with fail
   refine (HN2.out _).mono ?_
   rintro e w1 ⟨rfl, h1⟩
   obtain ⟨hc1, hf1, hz1⟩ := qb h1
   try simp at hz1
   have g0 : w1.cell? ⟨w.heap.size, 0, none⟩ = some (.int .i64 i) := memLater h1 qi
   have g1 : w1.cell? ⟨w.heap.size, 1, none⟩ = some (.int .i64 j) := memLater h1 qi
   have g2 : w1.cell? ⟨w.heap.size, 2, none⟩ = some (.bool true) := memLater h1 qi
   have k1 : w.heap.size < w1.heap.size := by omega
   have H1 := (H.alloc (.cells #[.int .i64 i, .int .i64 j, .bool true] 186)).below h1
   have r1 := H1.bg.c0
   have d1 := H1.dk.c0
   clear hc1 hf1
   go_wp2_with fail
   go_region_held3 (fun ww => ww.cell? ⟨r, 0, none⟩ = some (.pointer (some ⟨d, 0, none⟩)) ∧ ww.cell? ⟨d, 0, none⟩ = some (.string p.t) ∧ ww.cell? ⟨w.heap.size, 1, none⟩ = some (.int .i64 j)) (exact qK) (first | (go_at_call 195; refine Calls.mono (HLi.out _) ?_; rintro r2 w2 ⟨rfl, h2⟩; have hz2 := h2.size; (try simp at hz2); (try have ⟨hl2_0, hk2_0⟩ := qL d w2.heap.size); (try have ⟨hl2_1, hk2_1⟩ := qL r w2.heap.size); (try have ⟨hl2_2, hk2_2⟩ := qL w.heap.size w2.heap.size)) | (go_at_call 179; refine Calls.mono (HM.out _ qRd) ?_; rintro r3 w3 ⟨rfl, h3, u3⟩; have hz3 := u3.size; (try simp at hz3); have a0 := h3.bg.c0; have a1 := h3.dk.c0; rw [q3] at a1; have a2 := u3.was (b := w.heap.size) (o := 1) (v := .int .i64 j) (memLater h2 (memLater ((Below.refl _ _).drew) g1)) qs))
   exact qt47
  ·subst el eP
   go_enter func213, ntmps213
   go_wp2_with fail
   refine (HN2.out _).mono ?_
   rintro e w1 ⟨rfl, h1⟩
   obtain ⟨hc1, hf1, hz1⟩ := qb h1
   try simp at hz1
   have g0 : w1.cell? ⟨w.heap.size, 0, none⟩ = some (.int .i64 i) := memLater h1 qi
   have g1 : w1.cell? ⟨w.heap.size, 1, none⟩ = some (.int .i64 j) := memLater h1 qi
   have g2 : w1.cell? ⟨w.heap.size, 2, none⟩ = some (.bool false) := memLater h1 qi
   have k1 : w.heap.size < w1.heap.size := by omega
   have H1 := (H.alloc (.cells #[.int .i64 i, .int .i64 j, .bool false] 186)).below h1
   have r1 := H1.bg.c0
   have d1 := H1.dk.c0
   clear hc1 hf1
   go_wp2_with fail
   go_region_held3 (fun ww => ww.cell? ⟨r, 0, none⟩ = some (.pointer (some ⟨d, 0, none⟩)) ∧ ww.cell? ⟨w.heap.size, 0, none⟩ = some (.int .i64 i) ∧ ww.cell? ⟨w.heap.size, 1, none⟩ = some (.int .i64 j)) (exact qK) (first | (go_at_call 202; refine Calls.mono (HLa.out _) ?_; rintro r2 w2 ⟨rfl, h2⟩; have hz2 := h2.size; (try simp at hz2); (try have ⟨hl2_0, hk2_0⟩ := qL r w2.heap.size); (try have ⟨hl2_1, hk2_1⟩ := qL w.heap.size w2.heap.size)) | (go_at_call 179; refine Calls.mono (HM.out _ qRd) ?_; rintro r3 w3 ⟨rfl, h3, u3⟩; have hz3 := u3.size; (try simp at hz3); have a0 := h3.bg.c0; have a1 := u3.was (b := w.heap.size) (o := 0) (v := .int .i64 i) (memLater h2 (memLater ((Below.refl _ _).drew) g0)) qs; have a2 := u3.was (b := w.heap.size) (o := 1) (v := .int .i64 j) (memLater h2 (memLater ((Below.refl _ _).drew) g1)) qs))
   exact qt47
