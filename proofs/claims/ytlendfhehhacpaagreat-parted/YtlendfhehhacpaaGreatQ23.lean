/- A part. -/
import Derived.Test.YtlendfhehhacpaaGreatQ21
import Derived.Test.YtlendfhehhacpaaGreatQ17
import Derived.Laws.IdiomStrings
set_option linter.unusedVariables false
set_option linter.unusedSimpArgs false
set_option maxRecDepth 100000
set_option maxHeartbeats 8000000
namespace Go.Proofs.YtlendfhehhacpaaGreat
open Go.RowKit Nib Tryz
theorem qt38 {P : Prop} (h : P := by
  clear hc4 hf4 hc5 hf5
  go_wp2
  all_goals
   first
    | (exact qV (.tuple #[.agg #[.int .i64 (wayX (R)), .int .i64 (wayK (R))], .bool (wayZ (R))]) (by simp [results, results208, go_sem, RB5_0, RB5_1, RB5_z, RB5_l]) rfl)
 ) : P := h
theorem sToWord_plain (s : ByteArray) (p n : Nat) (g : Bool) (w : World) (hs : s.size ≤ 1000) (hp : p ≤ s.size) (hn : n ≤ 99) :
  qC 208 #[.agg #[.string s, .int .i64 (p), .int .i64 (n), .bool false, .bool false], .bool g] w (.tuple #[.agg #[.int .i64 (wayX (((wordQ s p (max n 1) g false : Int), 0, (wordQ s p (max n 1) g false : Int) == (p : Int)))), .int .i64 (wayK (((wordQ s p (max n 1) g false : Int), 0, (wordQ s p (max n 1) g false : Int) == (p : Int))))], .bool (wayZ (((wordQ s p (max n 1) g false : Int), 0, (wordQ s p (max n 1) g false : Int) == (p : Int))))]) := by
 have HP : Hid (∀ (q : Nat), q ≤ s.size → ∀ ww, qC 249 #[.string s, .int .i64 q, .bool g] ww (.int .i64 (wstep s g q))) := fun q hq ww => sWordStep_any s q g ww hs hq
 have HN : qH 241 #[.agg #[.string s, .int .i64 (p), .int .i64 (n), .bool false, .bool false]] (.int .i64 ((max n 1 : Nat) : Int)) := by
  intro ww
  have := sNumber_any s p n false false ww
  rw [show max (n : Int) 1 = ((max n 1 : Nat) : Int) by omega] at this
  exact this
 have hN1 : 1 ≤ max n 1 := by omega
 have hN2 : max n 1 ≤ 99 := by omega
 generalize max n 1 = N at *
 have HU : qH 240 #[.agg #[.string s, .int .i64 (p), .int .i64 (n), .bool false, .bool false], .int .i64 (wordQ s p N g false : Nat), .int .i64 0] (.tuple #[.agg #[.int .i64 (wayX (((wordQ s p N g false : Int), 0, (wordQ s p N g false : Int) == (p : Int)))), .int .i64 (wayK (((wordQ s p N g false : Int), 0, (wordQ s p N g false : Int) == (p : Int))))], .bool (wayZ (((wordQ s p N g false : Int), 0, (wordQ s p N g false : Int) == (p : Int))))]) := fun ww => sUnless_any s p n _ 0 false false ww
 generalize (((wordQ s p N g false : Nat) : Int), (0 : Int), (((wordQ s p N g false : Nat) : Int) == (p : Int))) = R at *
 have hlast := beg_le s s.size
 have HLast : qH 195 #[.string s, .int .i64 s.size] (.agg #[.int .i64 (beg s s.size), .int .i64 (fin s s.size)]) := fun ww => tLine_any s s.size s.size ww hs rfl (Nat.le_refl _)
 have hfl := fin_le (Nat.le_refl s.size)
 have HT : qH 202 #[.agg #[.int .i64 (beg s s.size), .int .i64 (fin s s.size)]] (.int .i64 (lst s s.size : Nat)) := by
  intro ww; rw [lst_max]; exact tLast_any _ _ ww qo
 have HEnd : qH 246 #[.string s] (.int .i64 s.size) := by
  intro ww
  refine (tEnd_any s ww).mono ?_
  rintro e w' ⟨rfl, rfl⟩
  exact ⟨rfl, Below.refl _ _⟩
 have HV : Hid (((wordQ s p N g false : Nat) : Int) = if ((lst s s.size : Nat) : Int) < ((itr (wstep s g) N p : Nat) : Int) then ((lst s s.size : Nat) : Int) else ((itr (wstep s g) N p : Nat) : Int)) := by
  rw [Hid]
  unfold wordQ
  rw [if_neg qi]
  obtain ⟨k, rfl⟩ : ∃ k, N = k + 1 := ⟨N - 1, by omega⟩
  exact clm_word (itr_w_le hp k)
 generalize lst s s.size = LL at *
 generalize beg s s.size = LB at *
 generalize fin s s.size = LF at *
 go_enter func208, ntmps208
 have F : Five ((w.alloc (.cells #[.string s, .int .i64 (p), .int .i64 (n), .bool false, .bool false] 206)).alloc (.cells #[.int .i64 0, .int .i64 0] 202)) w.heap.size s p n false false := Five.alloc (Five.new _ _ _ _ _ _ _) _
 have RB : Two ((w.alloc (.cells #[.string s, .int .i64 (p), .int .i64 (n), .bool false, .bool false] 206)).alloc (.cells #[.int .i64 0, .int .i64 0] 202)) (w.heap.size + 1) 0 0 := qN
 go_wp2_with fail
 go_region
 go_wp2_with fail
 refine (HN.out _).mono ?_
 rintro r1 w1 ⟨rfl, h1⟩
 obtain ⟨hc1, hf1, hz1⟩ := qb h1
 (try simp at hz1)
 have F1 : Five w1 (w.heap.size) s p n false false := qF
 have ⟨F1_0, F1_1, F1_2, F1_3, F1_4, F1_z, F1_l⟩ := F1
 have RB1 : Two w1 (w.heap.size + 1) (0) (0) := qTw
 have ⟨RB1_0, RB1_1, RB1_z, RB1_l⟩ := RB1
 go_wp2
 go_loopw [7, 27] (fun q i wr => ∃ k : Nat, k ≤ N ∧ q = .int .i64 (itr (wstep s g) k p : Nat) ∧ i = .int .i64 k ∧ Five wr w.heap.size s p n false false ∧ Two wr (w.heap.size + 1) 0 0 ∧ Below w.heap.size w wr) (fun _ i _ => N - (intOf i).toNat)
 case atStart =>
  refine ⟨0, by omega, rfl, rfl, F1, RB1, ?_⟩
  repeat exact qB
 case round =>
  clear F RB h1 hc1 hf1 F1_0 F1_1 F1_2 F1_3 F1_4 F1_z F1_l RB1_0 RB1_1 RB1_z RB1_l
  obtain ⟨k, hk, rfl, rfl, F, RB, hB⟩ := hrel
  have hq := itr_w_le (g := g) hp k
  have ⟨f0, f1, f2, f3, f4, fz, fl⟩ := F
  have r0 := (RB).c0
  have r1 := (RB).c1
  have rz := (RB).fz
  have rl := (RB).lt
  have hzz := hB.size
  by_cases hlt : k < N
  ·have HS : qH 249 #[.string s, .int .i64 (itr (wstep s g) k p : Nat), .bool g] (.int .i64 (itr (wstep s g) (k + 1) p : Nat)) := fun ww => HP.out _ hq ww
   generalize hA : itr (wstep s g) (k + 1) p = A at *
   go_wp2_with fail
   refine (HS.out _).mono ?_
   rintro r2 w2 ⟨rfl, h2⟩
   obtain ⟨hc2, hf2, hz2⟩ := qb h2
   (try simp at hz2)
   have F2 : Five w2 (w.heap.size) s p n false false := qF
   exact qt74
  ·have ek : k = N := by omega
   subst ek
   rw [HV.out] at HU
   clear HV
   generalize itr (wstep s g) k p = A at *
   have hcast : (if (LL : Int) < (A : Int) then (LL : Int) else (A : Int)) = (if LL < A then (LL : Int) else (A : Int)) := by split <;> split <;> omega
   rw [hcast] at HU
   clear hcast
   generalize hX : (if LL < A then (LL : Int) else (A : Int)) = X at HU
   have s0 := f0; have s1 := f1; have s2 := f2; have s3 := f3; have s4 := f4
   go_wp2_with fail
   go_region_held3 (fun ww => ww.cell? ⟨w.heap.size, 0, none⟩ = some (.string s) ∧ ww.cell? ⟨w.heap.size, 1, none⟩ = some (.int .i64 p) ∧ ww.cell? ⟨w.heap.size, 2, none⟩ = some (.int .i64 n) ∧ ww.cell? ⟨w.heap.size, 3, none⟩ = some (.bool false) ∧ ww.cell? ⟨w.heap.size, 4, none⟩ = some (.bool false)) ((refine ⟨?_, ?_, ?_, ?_, ?_⟩ <;> (first | ((repeat exact qM); done) | (go_simp; done)))) (first | (go_at_call 246; refine (HEnd.out _).mono ?_; rintro r2 w2 ⟨rfl, h2⟩; obtain ⟨hc2, hf2, hz2⟩ := qb h2; (try simp at hz2); (try have ⟨hl2_0, hk2_0⟩ := qL w.heap.size w2.heap.size); (try have ⟨hl2_1, hk2_1⟩ := qL wr.heap.size w2.heap.size); (try have ⟨hl2_2, hk2_2⟩ := qL w2.heap.size w2.heap.size); have RB2 : Two w2 (w.heap.size + 1) (0) (0) := qTw; have ⟨RB2_0, RB2_1, RB2_z, RB2_l⟩ := RB2) | (go_at_call 195; refine (HLast.out _).mono ?_; rintro r3 w3 ⟨rfl, h3⟩; obtain ⟨hc3, hf3, hz3⟩ := qb h3; (try simp at hz3); (try have ⟨hl3_0, hk3_0⟩ := qL w.heap.size w3.heap.size); (try have ⟨hl3_1, hk3_1⟩ := qL wr.heap.size w3.heap.size); (try have ⟨hl3_2, hk3_2⟩ := qL w2.heap.size w3.heap.size); have RB3 : Two w3 (w.heap.size + 1) (0) (0) := qTw; have ⟨RB3_0, RB3_1, RB3_z, RB3_l⟩ := RB3))
   ·have T : Two (w3.alloc (.cells #[.int .i64 LB, .int .i64 LF] 128)) (w3.heap.size) LB LF := Two.new _ _ _ _
    have t0 := T.c0
    have t1 := T.c1
    clear hc2 hf2 hc3 hf3 HP HN HEnd HLast F f0 f1 f2 f3 f4
    go_wp2_with fail
    go_region_held3 (fun ww => ww.cell? ⟨w.heap.size, 0, none⟩ = some (.string s) ∧ ww.cell? ⟨w.heap.size, 1, none⟩ = some (.int .i64 p) ∧ ww.cell? ⟨w.heap.size, 2, none⟩ = some (.int .i64 n) ∧ ww.cell? ⟨w.heap.size, 3, none⟩ = some (.bool false) ∧ ww.cell? ⟨w.heap.size, 4, none⟩ = some (.bool false) ∧ ww.cell? ⟨w3.heap.size, 0, none⟩ = some (.int .i64 LB) ∧ ww.cell? ⟨w3.heap.size, 1, none⟩ = some (.int .i64 LF)) ((refine ⟨?_, ?_, ?_, ?_, ?_, ?_, ?_⟩ <;> (first | ((repeat exact qM); done) | (go_simp; done)))) (first | (go_at_call 202; refine (HT.out _).mono ?_; rintro r4 w4 ⟨rfl, h4⟩; obtain ⟨hc4, hf4, hz4⟩ := qb h4; (try simp at hz4); (try have ⟨hl4_0, hk4_0⟩ := qL w.heap.size w4.heap.size); (try have ⟨hl4_1, hk4_1⟩ := qL w3.heap.size w4.heap.size); have RB4 : Two w4 (w.heap.size + 1) (0) (0) := qTw; have ⟨RB4_0, RB4_1, RB4_z, RB4_l⟩ := RB4) | (go_at_call 240; refine (HU.out _).mono ?_; rintro r5 w5 ⟨rfl, h5⟩; obtain ⟨hc5, hf5, hz5⟩ := qb h5; (try simp at hz5); (try have ⟨hl5_0, hk5_0⟩ := qL w.heap.size w5.heap.size); (try have ⟨hl5_1, hk5_1⟩ := qL w3.heap.size w5.heap.size); have RB5 : Two w5 (w.heap.size + 1) (0) (0) := qTw; have ⟨RB5_0, RB5_1, RB5_z, RB5_l⟩ := RB5))
    exact qt38
   ·have Tb : Two w3 (w2.heap.size) 0 0 := Two.below (Two.new _ 0 0 _) h3
    have e0 := (Tb).c0
    have e1 := (Tb).c1
    have ez := (Tb).fz
    have el := (Tb).lt
    have T : Two ((w3.setCell ⟨w2.heap.size, 0, none⟩ (.int .i64 LB)).setCell ⟨w2.heap.size, 1, none⟩ (.int .i64 LF)) (w2.heap.size) LB LF := Two.set1 (Two.set0 Tb _) _
    have t0 := T.c0
    have t1 := T.c1
    clear hc2 hf2 hc3 hf3 HP HN HEnd HLast F f0 f1 f2 f3 f4
    go_wp2_with fail
    go_region_held3 (fun ww => ww.cell? ⟨w.heap.size, 0, none⟩ = some (.string s) ∧ ww.cell? ⟨w.heap.size, 1, none⟩ = some (.int .i64 p) ∧ ww.cell? ⟨w.heap.size, 2, none⟩ = some (.int .i64 n) ∧ ww.cell? ⟨w.heap.size, 3, none⟩ = some (.bool false) ∧ ww.cell? ⟨w.heap.size, 4, none⟩ = some (.bool false) ∧ ww.cell? ⟨w2.heap.size, 0, none⟩ = some (.int .i64 LB) ∧ ww.cell? ⟨w2.heap.size, 1, none⟩ = some (.int .i64 LF)) ((refine ⟨?_, ?_, ?_, ?_, ?_, ?_, ?_⟩ <;> (first | ((repeat exact qM); done) | (go_simp; done)))) (first | (go_at_call 202; refine (HT.out _).mono ?_; rintro r4 w4 ⟨rfl, h4⟩; obtain ⟨hc4, hf4, hz4⟩ := qb h4; (try simp at hz4); (try have ⟨hl4_0, hk4_0⟩ := qL w.heap.size w4.heap.size); (try have ⟨hl4_1, hk4_1⟩ := qL w2.heap.size w4.heap.size); have RB4 : Two w4 (w.heap.size + 1) (0) (0) := qTw; have ⟨RB4_0, RB4_1, RB4_z, RB4_l⟩ := RB4) | (go_at_call 240; refine (HU.out _).mono ?_; rintro r5 w5 ⟨rfl, h5⟩; obtain ⟨hc5, hf5, hz5⟩ := qb h5; (try simp at hz5); (try have ⟨hl5_0, hk5_0⟩ := qL w.heap.size w5.heap.size); (try have ⟨hl5_1, hk5_1⟩ := qL w2.heap.size w5.heap.size); have RB5 : Two w5 (w.heap.size + 1) (0) (0) := qTw; have ⟨RB5_0, RB5_1, RB5_z, RB5_l⟩ := RB5))
    exact qt38
   ·have Tb : Two w3 (wr.heap.size) 0 0 := Two.below (Two.below (Two.drew (Two.new _ 0 0 _)) h2) h3
    have e0 := (Tb).c0
    have e1 := (Tb).c1
    have ez := (Tb).fz
    have el := (Tb).lt
    have T : Two ((w3.setCell ⟨wr.heap.size, 0, none⟩ (.int .i64 LB)).setCell ⟨wr.heap.size, 1, none⟩ (.int .i64 LF)) (wr.heap.size) LB LF := Two.set1 (Two.set0 Tb _) _
    have t0 := T.c0
    have t1 := T.c1
    clear hc2 hf2 hc3 hf3 HP HN HEnd HLast F f0 f1 f2 f3 f4
    go_wp2_with fail
    go_region_held3 (fun ww => ww.cell? ⟨w.heap.size, 0, none⟩ = some (.string s) ∧ ww.cell? ⟨w.heap.size, 1, none⟩ = some (.int .i64 p) ∧ ww.cell? ⟨w.heap.size, 2, none⟩ = some (.int .i64 n) ∧ ww.cell? ⟨w.heap.size, 3, none⟩ = some (.bool false) ∧ ww.cell? ⟨w.heap.size, 4, none⟩ = some (.bool false) ∧ ww.cell? ⟨wr.heap.size, 0, none⟩ = some (.int .i64 LB) ∧ ww.cell? ⟨wr.heap.size, 1, none⟩ = some (.int .i64 LF)) ((refine ⟨?_, ?_, ?_, ?_, ?_, ?_, ?_⟩ <;> (first | ((repeat exact qM); done) | (go_simp; done)))) (first | (go_at_call 202; refine (HT.out _).mono ?_; rintro r4 w4 ⟨rfl, h4⟩; obtain ⟨hc4, hf4, hz4⟩ := qb h4; (try simp at hz4); (try have ⟨hl4_0, hk4_0⟩ := qL w.heap.size w4.heap.size); (try have ⟨hl4_1, hk4_1⟩ := qL wr.heap.size w4.heap.size); have RB4 : Two w4 (w.heap.size + 1) (0) (0) := qTw; have ⟨RB4_0, RB4_1, RB4_z, RB4_l⟩ := RB4) | (go_at_call 240; refine (HU.out _).mono ?_; rintro r5 w5 ⟨rfl, h5⟩; obtain ⟨hc5, hf5, hz5⟩ := qb h5; (try simp at hz5); (try have ⟨hl5_0, hk5_0⟩ := qL w.heap.size w5.heap.size); (try have ⟨hl5_1, hk5_1⟩ := qL wr.heap.size w5.heap.size); have RB5 : Two w5 (w.heap.size + 1) (0) (0) := qTw; have ⟨RB5_0, RB5_1, RB5_z, RB5_l⟩ := RB5))
    exact qt38
def weI (z i j : Nat) : Nat := if j < z then i else i - 1
def weJ (z j : Nat) : Nat := if j < z then j + 1 else j
theorem we_le {z i j : Nat} (h : i ≤ j) (hj : j ≤ z) : weI z i j ≤ weJ z j ∧ weJ z j ≤ z := by unfold weI weJ; split <;> omega
theorem vWithEnds (s : ByteArray) (i j : Nat) (w : World) (hs : s.size ≤ 1000) (h : i ≤ j) (hj : j ≤ s.size) :
  qC 263 #[.string s, .agg #[.int .i64 (i), .int .i64 (j)]] w (.agg #[.int .i64 (weI s.size i j), .int .i64 (weJ s.size j)]) := by
 have hw1 : IntKind.i64.wrap ((j : Int) + 1) = (j : Int) + 1 := by rw [IntKind.wrap_i64]; omega
 have hw2 : IntKind.i64.wrap ((i : Int) - 1) = (i : Int) - 1 := by rw [IntKind.wrap_i64]; omega
 have HE : qH 246 #[.string s] (.int .i64 s.size) := fun ww => Calls.mono (tEnd_any s ww) (fun _ _ ⟨a, b⟩ => ⟨a, b ▸ Below.refl _ _⟩)
 unfold weI weJ
 by_cases h1 : j < s.size
 ·have i1 : ((j : Nat) : Int) < ((s.size : Nat) : Int) := by omega
  rw [if_pos h1, if_pos h1, show (((j + 1 : Nat)) : Int) = (j : Int) + 1 by omega]
  go_enter func263, ntmps263
  go_wp2_with fail
  go_region_held3 (fun ww => ww.cell? ⟨w.heap.size, 0, none⟩ = some (.int .i64 i) ∧ ww.cell? ⟨w.heap.size, 1, none⟩ = some (.int .i64 j)) (exact qK) ((go_at_call 246; refine (HE.out _).mono ?_; rintro r1 w1 ⟨rfl, h1⟩; obtain ⟨hc1, hf1, hz1⟩ := qb h1; (try simp at hz1); (try have ⟨hl1_0, hk1_0⟩ := qL w.heap.size w1.heap.size)))
  have l1 : w.heap.size < w1.heap.size := by omega
  have l2 : w.heap.size + 1 < w1.heap.size := by omega
  have r0 : w1.cell? ⟨w.heap.size + 1, 0, none⟩ = some (.int .i64 0) := (hc1 _ _ qi).trans qi
  have r1 : w1.cell? ⟨w.heap.size + 1, 1, none⟩ = some (.int .i64 0) := (hc1 _ _ qi).trans qi
  have rz : ∀ o, w1.frozen? ⟨w.heap.size + 1, o, none⟩ = false := fun o => (hf1 _ _ qi).trans qi
  have rz0 : ∀ o, w1.frozen? ⟨w.heap.size, o, none⟩ = false := fun o => (hf1 _ _ qs).trans qi
  clear hc1 hf1
  go_wp2
  exact qV (.agg #[.int .i64 (i), .int .i64 ((j : Int) + 1)]) (by simp [results, results263, go_sem, r0, r1, rz, l2, l1]) rfl
 ·have i1 : ¬ ((j : Nat) : Int) < ((s.size : Nat) : Int) := by omega
  rw [if_neg h1, if_neg h1]
  by_cases h2 : 0 < i
  ·have i2 : (0 : Int) < ((i : Nat) : Int) := by omega
   rw [show (((i - 1 : Nat)) : Int) = (i : Int) - 1 by omega]
   go_enter func263, ntmps263
   go_wp2_with fail
   go_region_held3 (fun ww => ww.cell? ⟨w.heap.size, 0, none⟩ = some (.int .i64 i) ∧ ww.cell? ⟨w.heap.size, 1, none⟩ = some (.int .i64 j)) (exact qK) ((go_at_call 246; refine (HE.out _).mono ?_; rintro r1 w1 ⟨rfl, h1⟩; obtain ⟨hc1, hf1, hz1⟩ := qb h1; (try simp at hz1); (try have ⟨hl1_0, hk1_0⟩ := qL w.heap.size w1.heap.size)))
   have l1 : w.heap.size < w1.heap.size := by omega
   have l2 : w.heap.size + 1 < w1.heap.size := by omega
   have r0 : w1.cell? ⟨w.heap.size + 1, 0, none⟩ = some (.int .i64 0) := (hc1 _ _ qi).trans qi
   have r1 : w1.cell? ⟨w.heap.size + 1, 1, none⟩ = some (.int .i64 0) := (hc1 _ _ qi).trans qi
   have rz : ∀ o, w1.frozen? ⟨w.heap.size + 1, o, none⟩ = false := fun o => (hf1 _ _ qi).trans qi
   have rz0 : ∀ o, w1.frozen? ⟨w.heap.size, o, none⟩ = false := fun o => (hf1 _ _ qs).trans qi
   clear hc1 hf1
   go_wp2
   exact qV (.agg #[.int .i64 ((i : Int) - 1), .int .i64 (j)]) (by simp [results, results263, go_sem, r0, r1, rz, l2, l1]) rfl
  ·have h3 : i = 0 := by omega
   have i2 : ¬ (0 : Int) < ((i : Nat) : Int) := by omega
   rw [show (((i - 1 : Nat)) : Int) = (i : Int) by omega]
   clear h3
   go_enter func263, ntmps263
   go_wp2_with fail
   go_region_held3 (fun ww => ww.cell? ⟨w.heap.size, 0, none⟩ = some (.int .i64 i) ∧ ww.cell? ⟨w.heap.size, 1, none⟩ = some (.int .i64 j)) (exact qK) ((go_at_call 246; refine (HE.out _).mono ?_; rintro r1 w1 ⟨rfl, h1⟩; obtain ⟨hc1, hf1, hz1⟩ := qb h1; (try simp at hz1); (try have ⟨hl1_0, hk1_0⟩ := qL w.heap.size w1.heap.size)))
   have l1 : w.heap.size < w1.heap.size := by omega
   have l2 : w.heap.size + 1 < w1.heap.size := by omega
   have r0 : w1.cell? ⟨w.heap.size + 1, 0, none⟩ = some (.int .i64 0) := (hc1 _ _ qi).trans qi
   have r1 : w1.cell? ⟨w.heap.size + 1, 1, none⟩ = some (.int .i64 0) := (hc1 _ _ qi).trans qi
   have rz : ∀ o, w1.frozen? ⟨w.heap.size + 1, o, none⟩ = false := fun o => (hf1 _ _ qi).trans qi
   have rz0 : ∀ o, w1.frozen? ⟨w.heap.size, o, none⟩ = false := fun o => (hf1 _ _ qs).trans qi
   clear hc1 hf1
   go_wp2
   exact qV (.agg #[.int .i64 (i), .int .i64 (j)]) (by simp [results, results263, go_sem, r0, r1, rz, l2, l1]) rfl
def cutS (s : ByteArray) (i j : Nat) : ByteArray := s.extract 0 i ++ s.extract j s.size
theorem cutS_size {s : ByteArray} {i j : Nat} (h : i ≤ j) (hj : j ≤ s.size) : (cutS s i j).size = s.size - (j - i) := by
 unfold cutS
 rw [ByteArray.size_append, ByteArray.size_extract, ByteArray.size_extract]
 omega
theorem tWith_cut (s : ByteArray) (i j : Nat) (w : World) (hs : s.size ≤ 1000) (h : i ≤ j) (hj : j ≤ s.size) :
  qC 192 #[.string s, .agg #[.int .i64 (i), .int .i64 (j)], .string ⟨#[]⟩] w (.string (cutS s i j)) := by
 have := tWith_any s ⟨#[]⟩ i j i j w hs qd rfl rfl h hj
 rw [show s.extract 0 i ++ (⟨#[]⟩ : ByteArray) = s.extract 0 i from ByteArray.append_empty] at this
 exact this
theorem vWithout_lines (s : ByteArray) (i j : Nat) (w : World) (hs : s.size ≤ 1000) (h : i ≤ j) (hj : j ≤ s.size) :
  qC 218 #[.string s, .agg #[.int .i64 i, .int .i64 j, .bool true]] w (.tuple #[.string (cutS s (weI s.size i j) (weJ s.size j)), .int .i64 (frs (cutS s (weI s.size i j) (weJ s.size j)) (min i (cutS s (weI s.size i j) (weJ s.size j)).size))]) := by
 obtain ⟨g1, g2⟩ := we_le h hj
 have hz := cutS_size g1 g2
 have HE : qH 263 #[.string s, .agg #[.int .i64 (i), .int .i64 (j)]] (.agg #[.int .i64 (weI s.size i j), .int .i64 (weJ s.size j)]) := fun ww => vWithEnds s i j ww hs h hj
 have HW : qH 192 #[.string s, .agg #[.int .i64 (weI s.size i j), .int .i64 (weJ s.size j)], .string ⟨#[]⟩] (.string (cutS s (weI s.size i j) (weJ s.size j))) := fun ww => tWith_cut s _ _ ww hs g1 g2
 generalize weI s.size i j = I at *
 generalize weJ s.size j = J at *
 have hz2 : (cutS s I J).size ≤ 1000 := by omega
 generalize cutS s I J = X at *
 have HEnd : qH 246 #[.string X] (.int .i64 X.size) := fun ww => Calls.mono (tEnd_any X ww) (fun _ _ ⟨a, b⟩ => ⟨a, b ▸ Below.refl _ _⟩)
 have hm : min (i : Int) (X.size : Int) = ((min i X.size : Nat) : Int) := by omega
 have hk : min i X.size ≤ X.size := by omega
 generalize hM : min i X.size = M at *
 have HL : qH 195 #[.string X, .int .i64 M] (.agg #[.int .i64 (beg X M), .int .i64 (fin X M)]) := fun ww => tLine_any X M M ww hz2 rfl hk
 have HF : qH 243 #[.string X, .agg #[.int .i64 (beg X M), .int .i64 (fin X M)]] (.int .i64 (frs X M)) := fun ww => tFirst_any X _ _ M ww hz2 hk rfl rfl
 generalize frs X M = F at *
 generalize beg X M = LB at *
 generalize fin X M = LE at *
 clear hz g1 g2
 by_cases hle : X.size < i
 ·have hi : ((X.size : Nat) : Int) < ((i : Nat) : Int) := by omega
  have e : M = X.size := by omega
  subst e
  clear hM hm hk
  go_enter func218, ntmps218
  go_wp2_with fail
  refine (HE.out _).mono ?_
  rintro e w1 ⟨rfl, h1⟩
  obtain ⟨hc1, hf1, hz1⟩ := qb h1
  try simp at hz1
  have a0 : w1.cell? ⟨w.heap.size, 0, none⟩ = some (.int .i64 i) := (hc1 _ _ qi).trans qi
  have al : w.heap.size < w1.heap.size := by omega
  go_wp2_with fail
  refine (HW.out _).mono ?_
  rintro e w2 ⟨rfl, h2⟩
  obtain ⟨hc2, hf2, hz2⟩ := qb h2
  try simp at hz2
  have b0 : w2.cell? ⟨w.heap.size, 0, none⟩ = some (.int .i64 i) := (hc2 _ _ qO).trans a0
  have bl : w.heap.size < w2.heap.size := by omega
  clear hc1 hf1 hc2 hf2 a0
  go_wp2_with fail
  go_region_held3 (fun ww => ww.cell? ⟨w.heap.size, 0, none⟩ = some (.int .i64 i)) ((first | (go_simp; done) | ((repeat exact qM); done))) (first | (go_at_call 246; with_reducible refine Calls.mono (HEnd.out (w2.alloc (.cells #[.int .i64 0, .int .i64 0] 128)).drew) ?_; rintro r5 w5 ⟨rfl, h5⟩; have hz5 := h5.size; (try simp at hz5); (try have ⟨hl5_0, hk5_0⟩ := qL w.heap.size w5.heap.size); have nv0_0 : w5.cell? ⟨w2.heap.size, 0, none⟩ = some (.int .i64 0) := ((bcell h5).1 _ _ qO).trans qi; have nv0_1 : w5.cell? ⟨w2.heap.size, 1, none⟩ = some (.int .i64 0) := ((bcell h5).1 _ _ qO).trans qi; have nz0 : ∀ o, w5.frozen? ⟨w2.heap.size, o, none⟩ = false := fun o => ((bcell h5).2 _ o qO).trans qi; have nl0 : w2.heap.size < w5.heap.size := qo) | (go_at_call 246; with_reducible refine Calls.mono (HEnd.out w2.drew) ?_; rintro r5 w5 ⟨rfl, h5⟩; have hz5 := h5.size; (try simp at hz5); (try have ⟨hl5_0, hk5_0⟩ := qL w.heap.size w5.heap.size)) | (go_at_call 195; with_reducible refine Calls.mono (HL.out (w5.alloc (.cells #[.int .i64 0, .int .i64 0] 128))) ?_; rintro r3 w3 ⟨rfl, h3⟩; have hz3 := h3.size; (try simp at hz3); (try have ⟨hl3_0, hk3_0⟩ := qL w.heap.size w3.heap.size); (try have nv0_0 := memLater h3 nv0_0); (try have nv0_1 := memLater h3 nv0_1); (try have nz0 : ∀ o, w3.frozen? ⟨w2.heap.size, o, none⟩ = false := fun o => ((bcell h3).2 _ o qO).trans (nz0 o)); (try have nl0 : w2.heap.size < w3.heap.size := qo); have nv1_0 : w3.cell? ⟨w5.heap.size, 0, none⟩ = some (.int .i64 0) := ((bcell h3).1 _ _ qO).trans qi; have nv1_1 : w3.cell? ⟨w5.heap.size, 1, none⟩ = some (.int .i64 0) := ((bcell h3).1 _ _ qO).trans qi; have nz1 : ∀ o, w3.frozen? ⟨w5.heap.size, o, none⟩ = false := fun o => ((bcell h3).2 _ o qO).trans qi; have nl1 : w5.heap.size < w3.heap.size := qo) | (go_at_call 195; with_reducible refine Calls.mono (HL.out w5) ?_; rintro r3 w3 ⟨rfl, h3⟩; have hz3 := h3.size; (try simp at hz3); (try have ⟨hl3_0, hk3_0⟩ := qL w.heap.size w3.heap.size); (try have nv0_0 := memLater h3 nv0_0); (try have nv0_1 := memLater h3 nv0_1); (try have nz0 : ∀ o, w3.frozen? ⟨w2.heap.size, o, none⟩ = false := fun o => ((bcell h3).2 _ o qO).trans (nz0 o)); (try have nl0 : w2.heap.size < w3.heap.size := qo)))
  all_goals
   go_wp2_with fail
   refine (HF.out _).mono ?_
   rintro e w4 ⟨rfl, h4⟩
   obtain ⟨hc4, hf4, hz4⟩ := qb h4
   try simp at hz4
   go_wp2
   exact qV (.tuple #[.string X, .int .i64 F]) (by simp [results, results218, go_sem]) rfl
 ·have hi : ¬ ((X.size : Nat) : Int) < ((i : Nat) : Int) := by omega
  have e : M = i := by omega
  subst e
  clear hM hm hk
  go_enter func218, ntmps218
  go_wp2_with fail
  refine (HE.out _).mono ?_
  rintro e w1 ⟨rfl, h1⟩
  obtain ⟨hc1, hf1, hz1⟩ := qb h1
  try simp at hz1
  have a0 : w1.cell? ⟨w.heap.size, 0, none⟩ = some (.int .i64 M) := (hc1 _ _ qi).trans qi
  have al : w.heap.size < w1.heap.size := by omega
  go_wp2_with fail
  refine (HW.out _).mono ?_
  rintro e w2 ⟨rfl, h2⟩
  obtain ⟨hc2, hf2, hz2⟩ := qb h2
  try simp at hz2
  have b0 : w2.cell? ⟨w.heap.size, 0, none⟩ = some (.int .i64 M) := (hc2 _ _ qO).trans a0
  have bl : w.heap.size < w2.heap.size := by omega
  clear hc1 hf1 hc2 hf2 a0
  go_wp2_with fail
  go_region_held3 (fun ww => ww.cell? ⟨w.heap.size, 0, none⟩ = some (.int .i64 M)) ((first | (go_simp; done) | ((repeat exact qM); done))) (first | (go_at_call 246; with_reducible refine Calls.mono (HEnd.out (w2.alloc (.cells #[.int .i64 0, .int .i64 0] 128)).drew) ?_; rintro r5 w5 ⟨rfl, h5⟩; have hz5 := h5.size; (try simp at hz5); (try have ⟨hl5_0, hk5_0⟩ := qL w.heap.size w5.heap.size); have nv0_0 : w5.cell? ⟨w2.heap.size, 0, none⟩ = some (.int .i64 0) := ((bcell h5).1 _ _ qO).trans qi; have nv0_1 : w5.cell? ⟨w2.heap.size, 1, none⟩ = some (.int .i64 0) := ((bcell h5).1 _ _ qO).trans qi; have nz0 : ∀ o, w5.frozen? ⟨w2.heap.size, o, none⟩ = false := fun o => ((bcell h5).2 _ o qO).trans qi; have nl0 : w2.heap.size < w5.heap.size := qo) | (go_at_call 246; with_reducible refine Calls.mono (HEnd.out w2.drew) ?_; rintro r5 w5 ⟨rfl, h5⟩; have hz5 := h5.size; (try simp at hz5); (try have ⟨hl5_0, hk5_0⟩ := qL w.heap.size w5.heap.size)) | (go_at_call 195; with_reducible refine Calls.mono (HL.out (w5.alloc (.cells #[.int .i64 0, .int .i64 0] 128))) ?_; rintro r3 w3 ⟨rfl, h3⟩; have hz3 := h3.size; (try simp at hz3); (try have ⟨hl3_0, hk3_0⟩ := qL w.heap.size w3.heap.size); (try have nv0_0 := memLater h3 nv0_0); (try have nv0_1 := memLater h3 nv0_1); (try have nz0 : ∀ o, w3.frozen? ⟨w2.heap.size, o, none⟩ = false := fun o => ((bcell h3).2 _ o qO).trans (nz0 o)); (try have nl0 : w2.heap.size < w3.heap.size := qo); have nv1_0 : w3.cell? ⟨w5.heap.size, 0, none⟩ = some (.int .i64 0) := ((bcell h3).1 _ _ qO).trans qi; have nv1_1 : w3.cell? ⟨w5.heap.size, 1, none⟩ = some (.int .i64 0) := ((bcell h3).1 _ _ qO).trans qi; have nz1 : ∀ o, w3.frozen? ⟨w5.heap.size, o, none⟩ = false := fun o => ((bcell h3).2 _ o qO).trans qi; have nl1 : w5.heap.size < w3.heap.size := qo) | (go_at_call 195; with_reducible refine Calls.mono (HL.out w5) ?_; rintro r3 w3 ⟨rfl, h3⟩; have hz3 := h3.size; (try simp at hz3); (try have ⟨hl3_0, hk3_0⟩ := qL w.heap.size w3.heap.size); (try have nv0_0 := memLater h3 nv0_0); (try have nv0_1 := memLater h3 nv0_1); (try have nz0 : ∀ o, w3.frozen? ⟨w2.heap.size, o, none⟩ = false := fun o => ((bcell h3).2 _ o qO).trans (nz0 o)); (try have nl0 : w2.heap.size < w3.heap.size := qo)))
  all_goals
   go_wp2_with fail
   refine (HF.out _).mono ?_
   rintro e w4 ⟨rfl, h4⟩
   obtain ⟨hc4, hf4, hz4⟩ := qb h4
   try simp at hz4
   go_wp2
   exact qV (.tuple #[.string X, .int .i64 F]) (by simp [results, results218, go_sem]) rfl
theorem vDo_d (s X : ByteArray) (i j p q : Int) (l : Bool) (w : World)
  (HW : qH 218 #[.string s, .agg #[.int .i64 i, .int .i64 j, .bool l]] (.tuple #[.string X, .int .i64 q])) :
  qC 174 #[.int .u8 100, .string s, .agg #[.int .i64 i, .int .i64 j, .bool l], .int .i64 p] w (.tuple #[.string X, .int .i64 q]) := by
 go_enter func174, ntmps174
 go_wp2_with fail
 refine (HW.out _).mono ?_
 rintro e w1 ⟨rfl, h1⟩
 obtain ⟨hc1, hf1, hz1⟩ := qb h1
 try simp at hz1
 go_wp2
 exact qV (.tuple #[.string X, .int .i64 q]) (by simp [results, results174, go_sem]) rfl
theorem vDo_c (s : ByteArray) (i j : Nat) (p : Int) (l : Bool) (w : World) (hs : s.size ≤ 1000) (h : i ≤ j) (hj : j ≤ s.size) :
  qC 174 #[.int .u8 99, .string s, .agg #[.int .i64 i, .int .i64 j, .bool l], .int .i64 p] w (.tuple #[.string (cutS s i j), .int .i64 i]) := by
 have HW : qH 192 #[.string s, .agg #[.int .i64 (i), .int .i64 (j)], .string ⟨#[]⟩] (.string (cutS s i j)) := fun ww => tWith_cut s i j ww hs h hj
 generalize cutS s i j = X at *
 go_enter func174, ntmps174
 go_wp2_with fail
 go_wp2_with fail
 go_region_held3 (fun ww => ww.cell? ⟨w.heap.size, 0, none⟩ = some (.int .i64 i) ∧ ww.cell? ⟨w.heap.size, 1, none⟩ = some (.int .i64 j)) (exact qK) ((go_at_call 192; refine (HW.out _).mono ?_; rintro r1 w1 ⟨rfl, h1⟩; obtain ⟨hc1, hf1, hz1⟩ := qb h1; (try simp at hz1); (try have ⟨hl1_0, hk1_0⟩ := qL w.heap.size w1.heap.size)))
 go_wp2
 exact qV (.tuple #[.string X, .int .i64 i]) (by simp [results, results174, go_sem]) rfl
def smallU (c : UInt8) : UInt8 := if 65 ≤ c.toNat ∧ c.toNat ≤ 90 then (c.toNat + 32).toUInt8 else c
def greatU (c : UInt8) : UInt8 := if 97 ≤ c.toNat ∧ c.toNat ≤ 122 then (c.toNat - 32).toUInt8 else c
def turnU (c : UInt8) : UInt8 := if smallU c = c then greatU c else smallU c
theorem smallU_nat (c : UInt8) : ((smallU c).toNat : Int) = if 65 ≤ (c.toNat : Int) ∧ (c.toNat : Int) ≤ 90 then (c.toNat : Int) + 32 else c.toNat := by
 unfold smallU
 by_cases h : 65 ≤ c.toNat ∧ c.toNat ≤ 90
 ·rw [if_pos h, if_pos qo, Nat.toUInt8_eq, UInt8.toNat_ofNat']
  omega
 ·rw [if_neg h, if_neg qo]
theorem greatU_nat (c : UInt8) : ((greatU c).toNat : Int) = if 97 ≤ (c.toNat : Int) ∧ (c.toNat : Int) ≤ 122 then (c.toNat : Int) - 32 else c.toNat := by
 unfold greatU
 by_cases h : 97 ≤ c.toNat ∧ c.toNat ≤ 122
 ·rw [if_pos h, if_pos qo, Nat.toUInt8_eq, UInt8.toNat_ofNat']
  omega
 ·rw [if_neg h, if_neg qo]
theorem tSmall (c : UInt8) (w : World) :
  Calls Tryz.prog 220 #[.int .u8 c.toNat] w fun e w' => e = .returned (.int .u8 (smallU c).toNat) ∧ w' = w := by
 have hc := c.toNat_lt
 have hx := smallU_nat c
 generalize ((smallU c).toNat : Int) = X at *
 generalize hn : (c.toNat : Int) = n at *
 by_cases h1 : 65 ≤ n
 ·by_cases h2 : n ≤ 90
  ·rw [if_pos ⟨h1, h2⟩] at hx
   have w1 : IntKind.u8.wrap (n - 65) = n - 65 := by rw [IntKind.wrap_u8]; omega
   have w2 : IntKind.u8.wrap (n - 65 + 97) = n - 65 + 97 := by rw [IntKind.wrap_u8]; omega
   subst hx
   go_enter func220, ntmps220
   go_wp2
   go_ret
   exact ⟨by show Ending.returned (Value.int IntKind.u8 (n - 65 + 97)) = _; rw [show n - 65 + 97 = n + 32 by omega], rfl⟩
  ·rw [if_neg qo] at hx
   subst hx
   go_enter func220, ntmps220
   go_wp2
   go_ret
   exact ⟨rfl, rfl⟩
 ·rw [if_neg qo] at hx
  subst hx
  go_enter func220, ntmps220
  go_wp2
  go_ret
  exact ⟨rfl, rfl⟩
theorem tGreat (c : UInt8) (w : World) :
  Calls Tryz.prog 222 #[.int .u8 c.toNat] w fun e w' => e = .returned (.int .u8 (greatU c).toNat) ∧ w' = w := by
 have hc := c.toNat_lt
 have hx := greatU_nat c
 generalize ((greatU c).toNat : Int) = X at *
 generalize hn : (c.toNat : Int) = n at *
 by_cases h1 : 97 ≤ n
 ·by_cases h2 : n ≤ 122
  ·rw [if_pos ⟨h1, h2⟩] at hx
   have w1 : IntKind.u8.wrap (n - 97) = n - 97 := by rw [IntKind.wrap_u8]; omega
   have w2 : IntKind.u8.wrap (n - 97 + 65) = n - 97 + 65 := by rw [IntKind.wrap_u8]; omega
   subst hx
   go_enter func222, ntmps222
   go_wp2
   go_ret
   exact ⟨by show Ending.returned (Value.int IntKind.u8 (n - 97 + 65)) = _; rw [show n - 97 + 65 = n - 32 by omega], rfl⟩
  ·rw [if_neg qo] at hx
   subst hx
   go_enter func222, ntmps222
   go_wp2
   go_ret
   exact ⟨rfl, rfl⟩
 ·rw [if_neg qo] at hx
  subst hx
  go_enter func222, ntmps222
  go_wp2
  go_ret
  exact ⟨rfl, rfl⟩
theorem tTurnedB (c : UInt8) (w : World) :
  Calls Tryz.prog 194 #[.int .u8 c.toNat] w fun e w' => e = .returned (.int .u8 (turnU c).toNat) ∧ w' = w := by
 have H1 : Hid (∀ ww, Calls Tryz.prog 220 #[.int .u8 c.toNat] ww fun e w' => e = .returned (.int .u8 (smallU c).toNat) ∧ w' = ww) := fun ww => tSmall c ww
 have H2 : Hid (∀ ww, Calls Tryz.prog 222 #[.int .u8 c.toNat] ww fun e w' => e = .returned (.int .u8 (greatU c).toNat) ∧ w' = ww) := fun ww => tGreat c ww
 unfold turnU
 by_cases h : smallU c = c
 ·rw [if_pos h]
  rw [h] at H1
  generalize ((greatU c).toNat : Int) = X at *
  go_enter func194, ntmps194
  go_wp2_with fail
  refine (H1.out _).mono ?_
  rintro e w' ⟨rfl, rfl⟩
  go_wp2_with fail
  refine (H2.out _).mono ?_
  rintro e w' ⟨rfl, rfl⟩
  go_wp2
  go_ret
  exact ⟨rfl, rfl⟩
 ·rw [if_neg h]
  have hne : ¬ ((smallU c).toNat : Int) = (c.toNat : Int) := by
   intro e
   apply h
   exact UInt8.toNat_inj.1 qo
  generalize ((smallU c).toNat : Int) = X at *
  go_enter func194, ntmps194
  go_wp2_with fail
  refine (H1.out _).mono ?_
  rintro e w' ⟨rfl, rfl⟩
  go_wp2
  go_ret
  exact ⟨rfl, rfl⟩
structure Byt (w : World) (b : Nat) (l : List UInt8) : Prop where
 c : ∀ (j : Nat) (h : j < l.length), w.cell? ⟨b, j, none⟩ = some (.int .u8 (l[j].toNat : Int))
 fz : ∀ j : Nat, j < l.length → w.frozen? ⟨b, j, none⟩ = false
 lt : b < w.heap.size
theorem Byt.below {w w' : World} {b : Nat} {l : List UInt8} (h : Byt w b l) (hb : Below w.heap.size w w') : Byt w' b l :=
 ⟨fun j hj => (hb.cell (p := ⟨b, j, none⟩) h.lt).trans (h.c j hj), fun j hj => (hb.frozen (p := ⟨b, j, none⟩) h.lt).trans (h.fz j hj), Nat.lt_of_lt_of_le h.lt hb.size⟩
theorem Byt.set {w : World} {b : Nat} {l : List UInt8} (h : Byt w b l) (k : Nat) (x : UInt8) (hk : k < l.length) : Byt (w.setCell ⟨b, k, none⟩ (.int .u8 x.toNat)) b (l.set k x) := by
 refine ⟨fun j hj => ?_, fun j hj => ?_, by simpa [World.setCell] using h.lt⟩
 ·by_cases e : k = j
  ·subst e
   have := h.c k hk
   have hfz := h.fz k hk
   go_simp
  ·have hj' : j < l.length := by simpa using hj
   have := h.c j hj'
   rw [World.cell?_setCell_other _ _ _ _ qf, this]
   simp [List.getElem_set, e]
 ·rw [frozen_set]; exact h.fz j (by simpa using hj)
theorem tEach (s : ByteArray) (K : Nat) (F : UInt8 → UInt8) (w : World) (hs : s.size ≤ 1000)
  (HEn : ∀ args ww, (callFunc K args).run Tryz.prog ww = .ok (.enter K args) ww)
  (HF : Hid (∀ (c : UInt8) ww, Calls Tryz.prog K #[.int .u8 c.toNat] ww fun e w' => e = .returned (.int .u8 (F c).toNat) ∧ w' = ww)) :
  qC 193 #[.string s, .func (.func K) #[] #[]] w (.string ⟨(s.data.toList.map F).toArray⟩) := by
 have hcv := fun ww : World => run_bytes_of_string (P := Tryz.prog) ww 9 48 5 s underlying9 underlying48 underlying5
 have hlen : s.data.toList.length = s.size := by rw [Array.length_toList]; rfl
 have HL : Hid (s.data.toList.length = s.size) := hlen
 have B0 : Byt (w.alloc (.cells (bytesRow s (grownCap w s.size 0 5)) 5 ((bytesRow s (grownCap w s.size 0 5)).size, (bytesRow s (grownCap w s.size 0 5)).size + 1))).drew w.heap.size s.data.toList := by
  refine ⟨fun j hj => ?_, fun j hj => ?_, by simp⟩
  ·refine memLater ((Below.refl _ _).drew) ?_
   rw [World.cell?_alloc_mark, bytesRow_at s _ j (by rw [← Array.length_toList]; exact hj)]
   try simp
  ·have hz : j < (bytesRow s (grownCap w s.size 0 5)).size := by
    have : s.data.size = s.size := rfl
    simp [bytesRow]
    omega
   have := World.frozen?_alloc_mark w (bytesRow s (grownCap w s.size 0 5)) 5 (bytesRow s (grownCap w s.size 0 5)).size ((bytesRow s (grownCap w s.size 0 5)).size + 1) j
   refine Eq.trans ?_ (this.trans ?_)
   ·rfl
   ·generalize (bytesRow s (grownCap w s.size 0 5)).size = n at *
    simp
    omega
 have Bl : Below w.heap.size w (w.alloc (.cells (bytesRow s (grownCap w s.size 0 5)) 5 ((bytesRow s (grownCap w s.size 0 5)).size, (bytesRow s (grownCap w s.size 0 5)).size + 1))).drew := by
  repeat exact qB
 generalize s.data.toList = l at *
 clear hlen
 go_enter func193, ntmps193
 go_wp2_with fail
 generalize (w.alloc (.cells (bytesRow s (grownCap w s.size 0 5)) 5 ((bytesRow s (grownCap w s.size 0 5)).size, (bytesRow s (grownCap w s.size 0 5)).size + 1))).drew = W1 at *
 go_loopw [12] (fun a wr => ∃ (k : Nat), k ≤ s.size ∧ a = .int .i64 k ∧ Byt wr w.heap.size ((l.take k).map F ++ l.drop k) ∧ Below w.heap.size w wr) (fun a _ => s.size - (intOf a).toNat)
 case atStart => exact ⟨0, Nat.zero_le _, rfl, by simpa using B0, Bl⟩
 case round =>
  clear B0 Bl
  obtain ⟨k, hk, rfl, B, hB⟩ := hrel
  by_cases hlt : k < s.size
  ·have hkl : k < l.length := by rw [HL.out]; exact hlt
   have hlL : ((l.take k).map F ++ l.drop k).length = l.length := by simp; omega
   have hc := B.c k qo
   have hfz := B.fz k qo
   have hlw := B.lt
   have hx : ((l.take k).map F ++ l.drop k)[k]'(by omega) = l[k] := by
    rw [List.getElem_append_right qs]
    simp
    congr 1
    omega
   rw [hx] at hc
   have HFk : Hid (∀ ww, Calls Tryz.prog K #[.int .u8 (l[k]'hkl).toNat] ww fun e w' => e = .returned (.int .u8 (F (l[k]'hkl)).toNat) ∧ w' = ww) := fun ww => HF.out _ ww
   have i1 : ((k : Nat) : Int) < ((s.size : Nat) : Int) := by omega
   go_wp2_with fail
   refine (HFk.out _).mono ?_
   rintro e w' ⟨rfl, rfl⟩
   have B2 := B.set k (F (l[k]'hkl)) qo
   go_wp2
   go_round
   case rel =>
    refine ⟨k + 1, by omega, by go_num, ?_, ?_⟩
    ·have el : ((l.take k).map F ++ l.drop k).set k (F (l[k]'hkl)) = (l.take (k + 1)).map F ++ l.drop (k + 1) := by
      rw [List.set_append_right _ _ qs]
      have e1 : k - (List.map F (List.take k l)).length = 0 := by simp; omega
      rw [e1, List.drop_eq_getElem_cons hkl, List.set_cons_zero, List.take_succ_eq_append_getElem hkl, List.map_append]
      simp
     rw [← el]
     exact B2
    ·repeat exact qB
   case measure => simp [intOf] <;> omega
  ·have hns : ¬ ((k : Nat) : Int) < ((s.size : Nat) : Int) := by omega
   have ek : k = s.size := by omega
   subst ek
   have hbk := run_convert_bytes_back (P := Tryz.prog) wr 48 9 5 ⟨w.heap.size, 0, none⟩ (grownCap w s.size 0 5) (l.map F) underlying48 underlying5 underlying9 (by
    intro j hj
    have hj' : j < ((l.take s.size).map F ++ l.drop s.size).length := by simp at hj ⊢; omega
    have := B.c j hj'
    have e2 : (l.take s.size).map F ++ l.drop s.size = l.map F := by
     rw [← HL.out, List.take_length, List.drop_length, List.append_nil]
    simp only [e2] at this
    rw [Go.WideShapes.add_plain, Nat.zero_add]
    exact this)
   rw [List.length_map, HL.out] at hbk
   go_wp2
   go_ret
   refine ⟨rfl, ?_⟩
   repeat exact qB
def qts (s : ByteArray) (key : Int) (p : Nat) : Nat → Nat → Nat → Bool → Option (Nat × Nat)
 | 0, _, _, _ => none
 | n + 1, k, f, o => if bt s k = key then (if o = true ∧ p ≤ k then some (f, k + 1) else qts s key p n (k + 1) k (!o)) else qts s key p n (k + 1) f o
theorem qts_le {s : ByteArray} {key : Int} {p : Nat} : ∀ (n k f : Nat) (o : Bool) (X : Nat × Nat), (o = true → f < k) → qts s key p n k f o = some X → X.1 + 1 < X.2 ∧ X.2 ≤ k + n := by
 intro n
 induction n with
 | zero => intro k f o X _ h; simp [qts] at h
 | succ n ih =>
  intro k f o X ho h
  simp only [qts] at h
  split at h
  ·split at h
   ·rename_i hc
    have := ho hc.1
    injection h with h
    subst h
    constructor <;> simp <;> omega
   ·have := ih (k + 1) k (!o) X (fun _ => by omega) h
    omega
  ·have := ih (k + 1) f o X (fun h => by have := ho h; omega) h
   omega
theorem oQuotes (s : ByteArray) (p : Nat) (key : Int) (wh : Bool) (hs : s.size ≤ 1000) (hp : p ≤ s.size) : GivesO 216 #[.agg #[.string s, .int .i64 p, .bool wh], .int .u8 key] s := by
 have HL : qH 195 #[.string s, .int .i64 p] (.agg #[.int .i64 (beg s p), .int .i64 (fin s p)]) := fun ww => tLine_any s p p ww hs rfl hp
 have h1 := beg_le s p
 have h2 := fin_ge s p
 have h3 := fin_le hp
 have hle := fun x => qts_le (s := s) (key := key) (p := p) (fin s p - beg s p) (beg s p) 0 false x (fun h => by cases h)
 obtain ⟨X, hX⟩ : ∃ X, qts s key p (fin s p - beg s p) (beg s p) 0 false = X := ⟨_, rfl⟩
 rw [hX] at hle
 have HX : Hid (qts s key p (fin s p - beg s p) (beg s p) 0 false = X) := hX
 clear hX
 obtain ⟨a, b, is, hab, hbs, hres⟩ : ∃ (a b : Nat) (is : Bool), a ≤ b ∧ b ≤ s.size ∧ ((X = none ∧ a = 0 ∧ b = 0 ∧ is = false) ∨ (∃ f k : Nat, X = some (f, k) ∧ is = true ∧ f + 2 ≤ k ∧ k ≤ s.size ∧ (if wh then (f : Int) else (f : Int) + 1) = (a : Int) ∧ (if wh then (k : Int) else (k : Int) - 1) = (b : Int))) := by
  cases X with
  | none => exact ⟨0, 0, false, Nat.le_refl _, Nat.zero_le _, Or.inl ⟨rfl, rfl, rfl, rfl⟩⟩
  | some x =>
   obtain ⟨f, k⟩ := x
   have h := hle (f, k) rfl
   simp only at h
   cases wh
   ·exact ⟨f + 1, k - 1, true, by omega, by omega, Or.inr ⟨f, k, rfl, rfl, by omega, by omega, by simp, by simp; omega⟩⟩
   ·exact ⟨f, k, true, by omega, by omega, Or.inr ⟨f, k, rfl, rfl, by omega, by omega, by simp, by simp⟩⟩
 have HP : Hid (∀ f k : Nat, f ≤ s.size → k ≤ s.size → ∀ ww, qC 261 #[.agg #[.string s, .int .i64 p, .bool wh], .agg #[.int .i64 (f), .int .i64 (k)]] ww (.agg #[.int .i64 (if wh then (f : Int) else (f : Int) + 1), .int .i64 (if wh then (k : Int) else (k : Int) - 1), .bool false])) := fun f k hf hk ww => oPair s p f k wh ww qo qo
 refine ⟨a, b, false, is, hab, hbs, fun w => ?_⟩
 clear hle
 generalize beg s p = LB at *
 generalize fin s p = LE at *
 go_enter func216, ntmps216
 have G : Tri ((w.alloc (.cells #[.string s, .int .i64 p, .bool wh] 213)).alloc (.cells #[.int .i64 0, .int .i64 0, .bool false] 186)) w.heap.size s p wh := Tri.alloc (Tri.new _ _ _ _ _) _
 have Q : Tre ((w.alloc (.cells #[.string s, .int .i64 p, .bool wh] 213)).alloc (.cells #[.int .i64 0, .int .i64 0, .bool false] 186)) (w.heap.size + 1) 0 0 false := by have := Tre.new (w.alloc (.cells #[.string s, .int .i64 p, .bool wh] 213)) 0 0 false 186; simpa using this
 go_wp2_with fail
 refine (HL.out _).mono ?_
 rintro r1 w1 ⟨rfl, h1⟩
 obtain ⟨hc1, hf1, hz1⟩ := qb h1
 (try simp at hz1)
 have G1 : Tri w1 (w.heap.size) (s) (p) (wh) := qTi
 have ⟨G1_0, G1_1, G1_2, G1_z, G1_l⟩ := G1
 have Q1 : Tre w1 (w.heap.size + 1) (0) (0) (false) := qTe
 have ⟨Q1_0, Q1_1, Q1_2, Q1_z, Q1_l⟩ := Q1
 clear hc1 hf1
 go_wp2
 have T : Two (w1.alloc (.cells #[.int .i64 LB, .int .i64 LE] 128)) w1.heap.size LB LE := Two.new _ _ _ _
 have G2 : Tri (w1.alloc (.cells #[.int .i64 LB, .int .i64 LE] 128)) w.heap.size s p wh := G1.alloc _
 have Q2 : Tre (w1.alloc (.cells #[.int .i64 LB, .int .i64 LE] 128)) (w.heap.size + 1) 0 0 false := Q1.alloc _
 have U : Below w.heap.size w (w1.alloc (.cells #[.int .i64 LB, .int .i64 LE] 128)) := by
  repeat exact qB
 clear G Q G1 Q1 G1_0 G1_1 G1_2 G1_z G1_l Q1_0 Q1_1 Q1_2 Q1_z Q1_l
 generalize (w1.alloc (.cells #[.int .i64 LB, .int .i64 LE] 128)) = W at *
 have g0 := G2.c0; have g1 := G2.c1; have g2 := G2.c2; have gl := G2.lt
 have t0 := T.c0; have t1 := T.c1; have tl := T.lt
 have ⟨q0, q1, q2, qz, ql⟩ := Q2
 go_loopw [7, 8, 9] (fun fv ov pv wr => ∃ (k f : Nat) (o : Bool), LB ≤ k ∧ k ≤ LE ∧ f ≤ k ∧ fv = .int .i64 f ∧ ov = .bool o ∧ pv = .int .i64 k ∧ Hid (qts s key p (LE - k) k f o = X) ∧ wr = W) (fun _ _ pv _ => LE - (intOf pv).toNat)
 case atStart => exact ⟨LB, 0, false, by omega, by omega, by omega, rfl, rfl, rfl, HX, rfl⟩
 case round =>
  clear HX
  obtain ⟨k, f, o, hk1, hk2, hf, rfl, rfl, rfl, HX, rfl⟩ := hrel
  have hwk : IntKind.i64.wrap ((k : Int) + 1) = (k : Int) + 1 := by rw [IntKind.wrap_i64]; omega
  by_cases hlt : k < LE
  ·have i1 : ((k : Nat) : Int) < ((LE : Nat) : Int) := by omega
   have hks : k < s.size := by omega
   have hks2 : ((k : Nat) : Int) < ((s.size : Nat) : Int) := by omega
   obtain ⟨n, hn⟩ : ∃ n, LE - k = n + 1 := ⟨LE - k - 1, by omega⟩
   have hn2 : LE - (k + 1) = n := by omega
   have hstep := HX.out
   rw [hn] at hstep
   simp only [qts] at hstep
   by_cases hkey : bt s k = key
   ·rw [if_pos hkey] at hstep
    have hcc : (((s[k]'hks).toNat : Int) == key) = true := by rw [← bt_in hks]; simp [hkey]
    have hcc2 : (((s[k]'hks).toNat : Int) != key) = false := by rw [← bt_in hks]; simp [hkey]
    have hcc3 : ((s[k]'hks).toNat : Int) = key := by rw [← bt_in hks]; exact hkey
    cases o with
    | true =>
     by_cases hpk : p ≤ k
     ·rw [if_pos ⟨rfl, hpk⟩] at hstep
      have hres2 : ∃ f' k' : Nat, X = some (f', k') ∧ is = true ∧ f' + 2 ≤ k' ∧ k' ≤ s.size ∧ (if wh then (f' : Int) else (f' : Int) + 1) = (a : Int) ∧ (if wh then (k' : Int) else (k' : Int) - 1) = (b : Int) := by
       rcases hres with ⟨h, _⟩ | h
       ·rw [← hstep] at h; cases h
       ·exact h
      obtain ⟨f', k', hx, his, _, _, ha, hb⟩ := hres2
      rw [← hstep] at hx
      injection hx with hx
      injection hx with hx1 hx2
      subst hx1 hx2 his
      have HPk := fun ww => HP.out f (k + 1) qo qo ww
      rw [ha, hb, show ((k + 1 : Nat) : Int) = (k : Int) + 1 by omega] at HPk
      have HPk : qH 261 #[.agg #[.string s, .int .i64 p, .bool wh], .agg #[.int .i64 (f), .int .i64 ((k : Int) + 1)]] (.agg #[.int .i64 a, .int .i64 b, .bool false]) := HPk
      have ipk : ((p : Nat) : Int) ≤ ((k : Nat) : Int) := by omega
      clear ha hb hstep HX hres HP
      go_wp2_with fail
      refine (HPk.out _).mono ?_
      rintro r5 w5 ⟨rfl, h5⟩
      obtain ⟨hc5, hf5, hz5⟩ := qb h5
      (try simp at hz5)
      have Q25 : Tre w5 (w.heap.size + 1) (0) (0) (false) := qTe
      have ⟨Q25_0, Q25_1, Q25_2, Q25_z, Q25_l⟩ := Q25
      clear hc5 hf5
      go_wp2
      (try rw [Exit.noGoto_ret])
      exact qV (.tuple #[.agg #[.int .i64 a, .int .i64 b, .bool false], .bool true]) (by simp [results, results216, go_sem, Q25_0, Q25_1, Q25_2, Q25_z, Q25_l]) rfl
     ·rw [if_neg (fun h => hpk h.2)] at hstep
      have ipk : ¬ ((p : Nat) : Int) ≤ ((k : Nat) : Int) := by omega
      have HX2 : Hid (qts s key p (LE - (k + 1)) (k + 1) k false = X) := by rw [Hid, hn2]; exact hstep
      clear hstep HX hres HP
      go_wp2
      go_round
      case rel => exact ⟨k + 1, k, false, by omega, by omega, by omega, rfl, rfl, by go_num, HX2, by first | trivial | rfl⟩
      case measure => simp [intOf] <;> omega
    | false =>
     rw [if_neg (fun h => by cases h.1)] at hstep
     have HX2 : Hid (qts s key p (LE - (k + 1)) (k + 1) k true = X) := by rw [Hid, hn2]; exact hstep
     clear hstep HX hres HP
     go_wp2
     go_round
     case rel => exact ⟨k + 1, k, true, by omega, by omega, by omega, rfl, rfl, by go_num, HX2, by first | trivial | rfl⟩
     case measure => simp [intOf] <;> omega
   ·rw [if_neg hkey] at hstep
    have hcc : (((s[k]'hks).toNat : Int) == key) = false := by rw [← bt_in hks]; simp [hkey]
    have hcc2 : (((s[k]'hks).toNat : Int) != key) = true := by rw [← bt_in hks]; simp [hkey]
    have HX2 : Hid (qts s key p (LE - (k + 1)) (k + 1) f o = X) := by rw [Hid, hn2]; exact hstep
    clear hstep HX hres HP
    go_wp2
    go_round
    case rel => exact ⟨k + 1, f, o, by omega, by omega, by omega, rfl, rfl, by go_num, HX2, by first | trivial | rfl⟩
    case measure => simp [intOf] <;> omega
  ·have hns : ¬ ((k : Nat) : Int) < ((LE : Nat) : Int) := by omega
   have hX0 : X = none := by
    have := HX.out
    rw [show LE - k = 0 by omega] at this
    simp only [qts] at this
    exact this.symm
   have hr2 : a = 0 ∧ b = 0 ∧ is = false := by
    rcases hres with ⟨_, h1, h2, h3⟩ | ⟨f', k', h, _⟩
    ·exact ⟨h1, h2, h3⟩
    ·rw [hX0] at h; cases h
   obtain ⟨ha, hb, his⟩ := hr2
   subst ha hb his
   clear HX hres HP
   go_wp2
   exact qV (.tuple #[.agg #[.int .i64 0, .int .i64 0, .bool false], .bool false]) (by simp [results, results216, go_sem, q0, q1, q2, qz, ql]) rfl
