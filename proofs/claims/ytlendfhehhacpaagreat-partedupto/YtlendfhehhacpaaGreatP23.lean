/- A part. -/
import Derived.Test.YtlendfhehhacpaaGreatP18
import Derived.Test.YtlendfhehhacpaaGreatP19
import Derived.Test.YtlendfhehhacpaaGreatP17
set_option linter.unusedVariables false
set_option linter.unusedSimpArgs false
set_option maxRecDepth 100000
set_option maxHeartbeats 8000000
namespace Go.Proofs.YtlendfhehhacpaaGreat
open Go.RowKit
theorem tSeekE_41 (s : ByteArray) (q d : Nat) (w : World) (hs : s.size ≤ 1000) (hq : q ≤ s.size) (hd : d ≤ 1) (hd0 : 1 ≤ d ∨ Nib.bt s q = 41) :
  qC 287 #[.string s, .int .u8 41, .int .i64 q, .int .i64 d] w (.tuple #[.int .i64 (mtI (Nib.mtD s 41 40 d (q + 1))), .bool (mtB (Nib.mtD s 41 40 d (q + 1)))]) :=
 tSeekE_gen 41 40 1 0 qd qd qd qd qd qd qd qd qd s q d w hs hq hd hd0
theorem tSeek_41 (s : ByteArray) (q d : Nat) (w : World) (hs : s.size ≤ 1000) (hq : q < s.size) (hd : d ≤ 1) (hd0 : 1 ≤ d ∨ Nib.bt s q = 41) :
  qC 287 #[.string s, .int .u8 41, .int .i64 q, .int .i64 d] w (.tuple #[.int .i64 (mtI (Nib.mtD s 41 40 d (q + 1))), .bool (mtB (Nib.mtD s 41 40 d (q + 1)))]) :=
 tSeekE_41 s q d w hs (Nat.le_of_lt hq) hd hd0
theorem tSeek_93 (s : ByteArray) (q d : Nat) (w : World) (hs : s.size ≤ 1000) (hq : q < s.size) (hd : d ≤ 1) (hd0 : 1 ≤ d ∨ Nib.bt s q = 93) :
  qC 287 #[.string s, .int .u8 93, .int .i64 q, .int .i64 d] w (.tuple #[.int .i64 (mtI (Nib.mtD s 93 91 d (q + 1))), .bool (mtB (Nib.mtD s 93 91 d (q + 1)))]) :=
 tSeekE_93 s q d w hs (Nat.le_of_lt hq) hd hd0
theorem tSeek_125 (s : ByteArray) (q d : Nat) (w : World) (hs : s.size ≤ 1000) (hq : q < s.size) (hd : d ≤ 1) (hd0 : 1 ≤ d ∨ Nib.bt s q = 125) :
  qC 287 #[.string s, .int .u8 125, .int .i64 q, .int .i64 d] w (.tuple #[.int .i64 (mtI (Nib.mtD s 125 123 d (q + 1))), .bool (mtB (Nib.mtD s 125 123 d (q + 1)))]) :=
 tSeekE_125 s q d w hs (Nat.le_of_lt hq) hd hd0
theorem tPartner_any (s : ByteArray) (p : Nat) (w : World) (hs : s.size ≤ 1000) (hp : p < s.size) (hb : Nib.prt (Nib.bt s p) ≠ 0) :
  qC 255 #[.string s, .int .i64 p] w (.tuple #[.int .i64 (mtI (Nib.mtch s p)), .bool (mtB (Nib.mtch s p))]) := by
 have HS : qH 287 #[.string s, .int .u8 (((s[p]'hp).toNat : Nat) : Int), .int .i64 p, .int .i64 0] (.tuple #[.int .i64 (mtI (Nib.mtch s p)), .bool (mtB (Nib.mtch s p))]) := by
  intro ww
  rw [← Nib.bt_in hp]
  have hcase : Nib.bt s p = 40 ∨ Nib.bt s p = 91 ∨ Nib.bt s p = 123 ∨ Nib.bt s p = 41 ∨ Nib.bt s p = 93 ∨ Nib.bt s p = 125 := by
   unfold Nib.prt at hb
   by_cases h1 : Nib.bt s p = 40
   ·exact Or.inl h1
   by_cases h2 : Nib.bt s p = 91
   ·exact Or.inr (Or.inl h2)
   by_cases h3 : Nib.bt s p = 123
   ·exact Or.inr (Or.inr (Or.inl h3))
   by_cases h4 : Nib.bt s p = 41
   ·exact Or.inr (Or.inr (Or.inr (Or.inl h4)))
   by_cases h5 : Nib.bt s p = 93
   ·exact Or.inr (Or.inr (Or.inr (Or.inr (Or.inl h5))))
   by_cases h6 : Nib.bt s p = 125
   ·exact Or.inr (Or.inr (Or.inr (Or.inr (Or.inr h6))))
   ·rw [if_neg h1, if_neg h2, if_neg h3, if_neg h4, if_neg h5, if_neg h6] at hb
    exact absurd rfl hb
  rcases hcase with h | h | h | h | h | h
  ·have e : Nib.mtch s p = Nib.mtU s 40 41 (s.size - p) ((0 : Nat) : Int) p := by unfold Nib.mtch; rw [h]; rfl
   rw [e, h]; exact tSeek_40 s p 0 ww hs hp qo (Or.inr h)
  ·have e : Nib.mtch s p = Nib.mtU s 91 93 (s.size - p) ((0 : Nat) : Int) p := by unfold Nib.mtch; rw [h]; rfl
   rw [e, h]; exact tSeek_91 s p 0 ww hs hp qo (Or.inr h)
  ·have e : Nib.mtch s p = Nib.mtU s 123 125 (s.size - p) ((0 : Nat) : Int) p := by unfold Nib.mtch; rw [h]; rfl
   rw [e, h]; exact tSeek_123 s p 0 ww hs hp qo (Or.inr h)
  ·have e : Nib.mtch s p = Nib.mtD s 41 40 ((0 : Nat) : Int) (p + 1) := by unfold Nib.mtch; rw [h]; rfl
   rw [e, h]; exact tSeek_41 s p 0 ww hs hp qo (Or.inr h)
  ·have e : Nib.mtch s p = Nib.mtD s 93 91 ((0 : Nat) : Int) (p + 1) := by unfold Nib.mtch; rw [h]; rfl
   rw [e, h]; exact tSeek_93 s p 0 ww hs hp qo (Or.inr h)
  ·have e : Nib.mtch s p = Nib.mtD s 125 123 ((0 : Nat) : Int) (p + 1) := by unfold Nib.mtch; rw [h]; rfl
   rw [e, h]; exact tSeek_125 s p 0 ww hs hp qo (Or.inr h)
 generalize Nib.mtch s p = M at *
 generalize mtI M = X at *
 generalize mtB M = Z at *
 clear hb
 go_enter Tryz.func255, Tryz.ntmps255
 go_wp2_with fail
 refine (HS.out _).mono ?_
 rintro e w1 ⟨rfl, h1⟩
 obtain ⟨hc1, hf1, hz1⟩ := qb h1
 try simp at hz1
 go_wp2
 all_goals
  first
   | (exact qV (.tuple #[.int .i64 X, .bool Z]) (by simp [results, Tryz.results255, go_sem]) rfl)
theorem qt37 {P : Prop} (h : P := by
  clear hc4 hf4 hc5 hf5
  go_wp2
  all_goals
   first
    | (exact qV (.tuple #[.agg #[.int .i64 (wayX (R)), .int .i64 (wayK (R))], .bool (wayZ (R))]) (by simp [results, Tryz.results208, go_sem, RB5_0, RB5_1, RB5_z, RB5_l]) rfl)
 ) : P := h
theorem sToWord_plain (s : ByteArray) (p n : Nat) (g : Bool) (w : World) (hs : s.size ≤ 1000) (hp : p ≤ s.size) (hn : n ≤ 99) :
  qC 208 #[.agg #[.string s, .int .i64 (p), .int .i64 (n), .bool false, .bool false], .bool g] w (.tuple #[.agg #[.int .i64 (wayX (((Nib.wordQ s p (max n 1) g false : Int), 0, (Nib.wordQ s p (max n 1) g false : Int) == (p : Int)))), .int .i64 (wayK (((Nib.wordQ s p (max n 1) g false : Int), 0, (Nib.wordQ s p (max n 1) g false : Int) == (p : Int))))], .bool (wayZ (((Nib.wordQ s p (max n 1) g false : Int), 0, (Nib.wordQ s p (max n 1) g false : Int) == (p : Int))))]) := by
 have HP : Hid (∀ (q : Nat), q ≤ s.size → ∀ ww, qC 249 #[.string s, .int .i64 q, .bool g] ww (.int .i64 (Nib.wstep s g q))) := fun q hq ww => sWordStep_any s q g ww hs hq
 have HN : qH 241 #[.agg #[.string s, .int .i64 (p), .int .i64 (n), .bool false, .bool false]] (.int .i64 ((max n 1 : Nat) : Int)) := by
  intro ww
  have := sNumber_any s p n false false ww
  rw [show max (n : Int) 1 = ((max n 1 : Nat) : Int) by omega] at this
  exact this
 have hN1 : 1 ≤ max n 1 := by omega
 have hN2 : max n 1 ≤ 99 := by omega
 generalize max n 1 = N at *
 have HU : qH 240 #[.agg #[.string s, .int .i64 (p), .int .i64 (n), .bool false, .bool false], .int .i64 (Nib.wordQ s p N g false : Nat), .int .i64 0] (.tuple #[.agg #[.int .i64 (wayX (((Nib.wordQ s p N g false : Int), 0, (Nib.wordQ s p N g false : Int) == (p : Int)))), .int .i64 (wayK (((Nib.wordQ s p N g false : Int), 0, (Nib.wordQ s p N g false : Int) == (p : Int))))], .bool (wayZ (((Nib.wordQ s p N g false : Int), 0, (Nib.wordQ s p N g false : Int) == (p : Int))))]) := fun ww => sUnless_any s p n _ 0 false false ww
 generalize (((Nib.wordQ s p N g false : Nat) : Int), (0 : Int), (((Nib.wordQ s p N g false : Nat) : Int) == (p : Int))) = R at *
 have hlast := Nib.beg_le s s.size
 have HLast : qH 195 #[.string s, .int .i64 s.size] (.agg #[.int .i64 (Nib.beg s s.size), .int .i64 (Nib.fin s s.size)]) := fun ww => tLine_any s s.size s.size ww hs rfl (Nat.le_refl _)
 have hfl := Nib.fin_le (Nat.le_refl s.size)
 have HT : qH 202 #[.agg #[.int .i64 (Nib.beg s s.size), .int .i64 (Nib.fin s s.size)]] (.int .i64 (Nib.lst s s.size : Nat)) := by
  intro ww; rw [Nib.lst_max]; exact tLast_any _ _ ww qo
 have HEnd : qH 246 #[.string s] (.int .i64 s.size) := by
  intro ww
  refine (tEnd_any s ww).mono ?_
  rintro e w' ⟨rfl, rfl⟩
  exact ⟨rfl, Below.refl _ _⟩
 have HV : Hid (((Nib.wordQ s p N g false : Nat) : Int) = if ((Nib.lst s s.size : Nat) : Int) < ((Nib.itr (Nib.wstep s g) N p : Nat) : Int) then ((Nib.lst s s.size : Nat) : Int) else ((Nib.itr (Nib.wstep s g) N p : Nat) : Int)) := by
  rw [Hid]
  unfold Nib.wordQ
  rw [if_neg qi]
  obtain ⟨k, rfl⟩ : ∃ k, N = k + 1 := ⟨N - 1, by omega⟩
  exact Nib.clm_word (Nib.itr_w_le hp k)
 generalize Nib.lst s s.size = LL at *
 generalize Nib.beg s s.size = LB at *
 generalize Nib.fin s s.size = LF at *
 go_enter Tryz.func208, Tryz.ntmps208
 have F : Five ((w.alloc (.cells #[.string s, .int .i64 (p), .int .i64 (n), .bool false, .bool false] 206)).alloc (.cells #[.int .i64 0, .int .i64 0] 202)) w.heap.size s p n false false := Five.alloc (Five.new _ _ _ _ _ _ _) _
 have RB : Two ((w.alloc (.cells #[.string s, .int .i64 (p), .int .i64 (n), .bool false, .bool false] 206)).alloc (.cells #[.int .i64 0, .int .i64 0] 202)) (w.heap.size + 1) 0 0 := qN
 go_wp2_with fail
 go_region
 go_wp2_with fail
 refine (HN.out _).mono ?_
 rintro r1 w1 ⟨rfl, h1⟩
 obtain ⟨hc1, hf1, hz1⟩ := qb h1
 (try simp at hz1)
 have F1 : Five w1 (w.heap.size) s p n false false := qF
 have ⟨F1_0, F1_1, F1_2, F1_3, F1_4, F1_z, F1_l⟩ := F1
 have RB1 : Two w1 (w.heap.size + 1) (0) (0) := qTw
 have ⟨RB1_0, RB1_1, RB1_z, RB1_l⟩ := RB1
 go_wp2
 go_loopw [7, 27] (fun q i wr => ∃ k : Nat, k ≤ N ∧ q = .int .i64 (Nib.itr (Nib.wstep s g) k p : Nat) ∧ i = .int .i64 k ∧ Five wr w.heap.size s p n false false ∧ Two wr (w.heap.size + 1) 0 0 ∧ Below w.heap.size w wr) (fun _ i _ => N - (intOf i).toNat)
 case atStart =>
  refine ⟨0, by omega, rfl, rfl, F1, RB1, ?_⟩
  repeat exact qB
 case round =>
  clear F RB h1 hc1 hf1 F1_0 F1_1 F1_2 F1_3 F1_4 F1_z F1_l RB1_0 RB1_1 RB1_z RB1_l
  obtain ⟨k, hk, rfl, rfl, F, RB, hB⟩ := hrel
  have hq := Nib.itr_w_le (g := g) hp k
  have ⟨f0, f1, f2, f3, f4, fz, fl⟩ := F
  have r0 := (RB).c0
  have r1 := (RB).c1
  have rz := (RB).fz
  have rl := (RB).lt
  have hzz := hB.size
  by_cases hlt : k < N
  ·have HS : qH 249 #[.string s, .int .i64 (Nib.itr (Nib.wstep s g) k p : Nat), .bool g] (.int .i64 (Nib.itr (Nib.wstep s g) (k + 1) p : Nat)) := fun ww => HP.out _ hq ww
   generalize hA : Nib.itr (Nib.wstep s g) (k + 1) p = A at *
   go_wp2_with fail
   refine (HS.out _).mono ?_
   rintro r2 w2 ⟨rfl, h2⟩
   obtain ⟨hc2, hf2, hz2⟩ := qb h2
   (try simp at hz2)
   have F2 : Five w2 (w.heap.size) s p n false false := qF
   exact qt78
  ·have ek : k = N := by omega
   subst ek
   rw [HV.out] at HU
   clear HV
   generalize Nib.itr (Nib.wstep s g) k p = A at *
   have hcast : (if (LL : Int) < (A : Int) then (LL : Int) else (A : Int)) = (if LL < A then (LL : Int) else (A : Int)) := by split <;> split <;> omega
   rw [hcast] at HU
   clear hcast
   generalize hX : (if LL < A then (LL : Int) else (A : Int)) = X at HU
   have s0 := f0; have s1 := f1; have s2 := f2; have s3 := f3; have s4 := f4
   go_wp2_with fail
   go_region_held3 (fun ww => ww.cell? ⟨w.heap.size, 0, none⟩ = some (.string s) ∧ ww.cell? ⟨w.heap.size, 1, none⟩ = some (.int .i64 p) ∧ ww.cell? ⟨w.heap.size, 2, none⟩ = some (.int .i64 n) ∧ ww.cell? ⟨w.heap.size, 3, none⟩ = some (.bool false) ∧ ww.cell? ⟨w.heap.size, 4, none⟩ = some (.bool false)) ((refine ⟨?_, ?_, ?_, ?_, ?_⟩ <;> (first | ((repeat exact qM); done) | (go_simp; done)))) (first | (go_at_call 246; refine (HEnd.out _).mono ?_; rintro r2 w2 ⟨rfl, h2⟩; obtain ⟨hc2, hf2, hz2⟩ := qb h2; (try simp at hz2); (try have ⟨hl2_0, hk2_0⟩ := qL w.heap.size w2.heap.size); (try have ⟨hl2_1, hk2_1⟩ := qL wr.heap.size w2.heap.size); (try have ⟨hl2_2, hk2_2⟩ := qL w2.heap.size w2.heap.size); have RB2 : Two w2 (w.heap.size + 1) (0) (0) := qTw; have ⟨RB2_0, RB2_1, RB2_z, RB2_l⟩ := RB2) | (go_at_call 195; refine (HLast.out _).mono ?_; rintro r3 w3 ⟨rfl, h3⟩; obtain ⟨hc3, hf3, hz3⟩ := qb h3; (try simp at hz3); (try have ⟨hl3_0, hk3_0⟩ := qL w.heap.size w3.heap.size); (try have ⟨hl3_1, hk3_1⟩ := qL wr.heap.size w3.heap.size); (try have ⟨hl3_2, hk3_2⟩ := qL w2.heap.size w3.heap.size); have RB3 : Two w3 (w.heap.size + 1) (0) (0) := qTw; have ⟨RB3_0, RB3_1, RB3_z, RB3_l⟩ := RB3))
   ·have T : Two (w3.alloc (.cells #[.int .i64 LB, .int .i64 LF] 128)) (w3.heap.size) LB LF := Two.new _ _ _ _
    have t0 := T.c0
    have t1 := T.c1
    clear hc2 hf2 hc3 hf3 HP HN HEnd HLast F f0 f1 f2 f3 f4
    go_wp2_with fail
    go_region_held3 (fun ww => ww.cell? ⟨w.heap.size, 0, none⟩ = some (.string s) ∧ ww.cell? ⟨w.heap.size, 1, none⟩ = some (.int .i64 p) ∧ ww.cell? ⟨w.heap.size, 2, none⟩ = some (.int .i64 n) ∧ ww.cell? ⟨w.heap.size, 3, none⟩ = some (.bool false) ∧ ww.cell? ⟨w.heap.size, 4, none⟩ = some (.bool false) ∧ ww.cell? ⟨w3.heap.size, 0, none⟩ = some (.int .i64 LB) ∧ ww.cell? ⟨w3.heap.size, 1, none⟩ = some (.int .i64 LF)) ((refine ⟨?_, ?_, ?_, ?_, ?_, ?_, ?_⟩ <;> (first | ((repeat exact qM); done) | (go_simp; done)))) (first | (go_at_call 202; refine (HT.out _).mono ?_; rintro r4 w4 ⟨rfl, h4⟩; obtain ⟨hc4, hf4, hz4⟩ := qb h4; (try simp at hz4); (try have ⟨hl4_0, hk4_0⟩ := qL w.heap.size w4.heap.size); (try have ⟨hl4_1, hk4_1⟩ := qL w3.heap.size w4.heap.size); have RB4 : Two w4 (w.heap.size + 1) (0) (0) := qTw; have ⟨RB4_0, RB4_1, RB4_z, RB4_l⟩ := RB4) | (go_at_call 240; refine (HU.out _).mono ?_; rintro r5 w5 ⟨rfl, h5⟩; obtain ⟨hc5, hf5, hz5⟩ := qb h5; (try simp at hz5); (try have ⟨hl5_0, hk5_0⟩ := qL w.heap.size w5.heap.size); (try have ⟨hl5_1, hk5_1⟩ := qL w3.heap.size w5.heap.size); have RB5 : Two w5 (w.heap.size + 1) (0) (0) := qTw; have ⟨RB5_0, RB5_1, RB5_z, RB5_l⟩ := RB5))
    exact qt37
   ·have Tb : Two w3 (w2.heap.size) 0 0 := Two.below (Two.new _ 0 0 _) h3
    have e0 := (Tb).c0
    have e1 := (Tb).c1
    have ez := (Tb).fz
    have el := (Tb).lt
    have T : Two ((w3.setCell ⟨w2.heap.size, 0, none⟩ (.int .i64 LB)).setCell ⟨w2.heap.size, 1, none⟩ (.int .i64 LF)) (w2.heap.size) LB LF := Two.set1 (Two.set0 Tb _) _
    have t0 := T.c0
    have t1 := T.c1
    clear hc2 hf2 hc3 hf3 HP HN HEnd HLast F f0 f1 f2 f3 f4
    go_wp2_with fail
    go_region_held3 (fun ww => ww.cell? ⟨w.heap.size, 0, none⟩ = some (.string s) ∧ ww.cell? ⟨w.heap.size, 1, none⟩ = some (.int .i64 p) ∧ ww.cell? ⟨w.heap.size, 2, none⟩ = some (.int .i64 n) ∧ ww.cell? ⟨w.heap.size, 3, none⟩ = some (.bool false) ∧ ww.cell? ⟨w.heap.size, 4, none⟩ = some (.bool false) ∧ ww.cell? ⟨w2.heap.size, 0, none⟩ = some (.int .i64 LB) ∧ ww.cell? ⟨w2.heap.size, 1, none⟩ = some (.int .i64 LF)) ((refine ⟨?_, ?_, ?_, ?_, ?_, ?_, ?_⟩ <;> (first | ((repeat exact qM); done) | (go_simp; done)))) (first | (go_at_call 202; refine (HT.out _).mono ?_; rintro r4 w4 ⟨rfl, h4⟩; obtain ⟨hc4, hf4, hz4⟩ := qb h4; (try simp at hz4); (try have ⟨hl4_0, hk4_0⟩ := qL w.heap.size w4.heap.size); (try have ⟨hl4_1, hk4_1⟩ := qL w2.heap.size w4.heap.size); have RB4 : Two w4 (w.heap.size + 1) (0) (0) := qTw; have ⟨RB4_0, RB4_1, RB4_z, RB4_l⟩ := RB4) | (go_at_call 240; refine (HU.out _).mono ?_; rintro r5 w5 ⟨rfl, h5⟩; obtain ⟨hc5, hf5, hz5⟩ := qb h5; (try simp at hz5); (try have ⟨hl5_0, hk5_0⟩ := qL w.heap.size w5.heap.size); (try have ⟨hl5_1, hk5_1⟩ := qL w2.heap.size w5.heap.size); have RB5 : Two w5 (w.heap.size + 1) (0) (0) := qTw; have ⟨RB5_0, RB5_1, RB5_z, RB5_l⟩ := RB5))
    exact qt37
   ·have Tb : Two w3 (wr.heap.size) 0 0 := Two.below (Two.below (Two.drew (Two.new _ 0 0 _)) h2) h3
    have e0 := (Tb).c0
    have e1 := (Tb).c1
    have ez := (Tb).fz
    have el := (Tb).lt
    have T : Two ((w3.setCell ⟨wr.heap.size, 0, none⟩ (.int .i64 LB)).setCell ⟨wr.heap.size, 1, none⟩ (.int .i64 LF)) (wr.heap.size) LB LF := Two.set1 (Two.set0 Tb _) _
    have t0 := T.c0
    have t1 := T.c1
    clear hc2 hf2 hc3 hf3 HP HN HEnd HLast F f0 f1 f2 f3 f4
    go_wp2_with fail
    go_region_held3 (fun ww => ww.cell? ⟨w.heap.size, 0, none⟩ = some (.string s) ∧ ww.cell? ⟨w.heap.size, 1, none⟩ = some (.int .i64 p) ∧ ww.cell? ⟨w.heap.size, 2, none⟩ = some (.int .i64 n) ∧ ww.cell? ⟨w.heap.size, 3, none⟩ = some (.bool false) ∧ ww.cell? ⟨w.heap.size, 4, none⟩ = some (.bool false) ∧ ww.cell? ⟨wr.heap.size, 0, none⟩ = some (.int .i64 LB) ∧ ww.cell? ⟨wr.heap.size, 1, none⟩ = some (.int .i64 LF)) ((refine ⟨?_, ?_, ?_, ?_, ?_, ?_, ?_⟩ <;> (first | ((repeat exact qM); done) | (go_simp; done)))) (first | (go_at_call 202; refine (HT.out _).mono ?_; rintro r4 w4 ⟨rfl, h4⟩; obtain ⟨hc4, hf4, hz4⟩ := qb h4; (try simp at hz4); (try have ⟨hl4_0, hk4_0⟩ := qL w.heap.size w4.heap.size); (try have ⟨hl4_1, hk4_1⟩ := qL wr.heap.size w4.heap.size); have RB4 : Two w4 (w.heap.size + 1) (0) (0) := qTw; have ⟨RB4_0, RB4_1, RB4_z, RB4_l⟩ := RB4) | (go_at_call 240; refine (HU.out _).mono ?_; rintro r5 w5 ⟨rfl, h5⟩; obtain ⟨hc5, hf5, hz5⟩ := qb h5; (try simp at hz5); (try have ⟨hl5_0, hk5_0⟩ := qL w.heap.size w5.heap.size); (try have ⟨hl5_1, hk5_1⟩ := qL wr.heap.size w5.heap.size); have RB5 : Two w5 (w.heap.size + 1) (0) (0) := qTw; have ⟨RB5_0, RB5_1, RB5_z, RB5_l⟩ := RB5))
    exact qt37
theorem same_line {s : ByteArray} {p q : Nat} (hp : p ≤ s.size) (hq : q ≤ s.size) : (Nib.beg s q = Nib.beg s p ∧ Nib.fin s q = Nib.fin s p) ↔ Nib.lin s q = Nib.lin s p := by
 constructor
 ·intro h
  rw [← Nib.lin_beg s q, h.1, Nib.lin_beg]
 ·intro h
  rw [Nib.beg_eq hq, Nib.fin_eq hq, Nib.beg_eq hp, Nib.fin_eq hp, h]
  exact ⟨rfl, rfl⟩
theorem qt50 {P : Prop} (h : P := by
  intro ww
  have h1 := Nib.itr_w_le (g := g) hp (N - 1)
  have h2 := Nib.itr_w_le (g := g) hp N
  have := sKept_any s _ _ ww hs h1 h2
  rw [show Nib.wordQ s p N g true = if ¬ (Nib.beg s (Nib.itr (Nib.wstep s g) N p) = Nib.beg s (Nib.itr (Nib.wstep s g) (N - 1) p) ∧ Nib.fin s (Nib.itr (Nib.wstep s g) N p) = Nib.fin s (Nib.itr (Nib.wstep s g) (N - 1) p)) ∧ Nib.fin s (Nib.itr (Nib.wstep s g) (N - 1) p) ≠ Nib.itr (Nib.wstep s g) (N - 1) p then Nib.fin s (Nib.itr (Nib.wstep s g) (N - 1) p) else Nib.itr (Nib.wstep s g) N p by
   unfold Nib.wordQ; rw [if_pos rfl]; simp only [same_line h1 h2, ne_eq]]
  exact this
 ) : P := h
theorem qt77 {P : Prop} (h : P := by
  have ⟨F2_0, F2_1, F2_2, F2_3, F2_4, F2_z, F2_l⟩ := F2
  have RB2 : Two w2 (w.heap.size + 1) (0) (0) := qTw
  have ⟨RB2_0, RB2_1, RB2_z, RB2_l⟩ := RB2
  go_wp2
  go_round
  case rel =>
   refine ⟨k + 1, by omega, rfl, by rw [hA], by go_num, F2, RB2, ?_⟩
   repeat exact qB
  case measure => simp [intOf] <;> omega
 ) : P := h
theorem sToWord_verb (s : ByteArray) (p n : Nat) (g : Bool) (w : World) (hs : s.size ≤ 1000) (hp : p ≤ s.size) (hn : n ≤ 99) :
  qC 208 #[.agg #[.string s, .int .i64 (p), .int .i64 (n), .bool true, .bool false], .bool g] w (.tuple #[.agg #[.int .i64 (wayX (((Nib.wordQ s p (max n 1) g true : Int), 0, (Nib.wordQ s p (max n 1) g true : Int) == (p : Int)))), .int .i64 (wayK (((Nib.wordQ s p (max n 1) g true : Int), 0, (Nib.wordQ s p (max n 1) g true : Int) == (p : Int))))], .bool (wayZ (((Nib.wordQ s p (max n 1) g true : Int), 0, (Nib.wordQ s p (max n 1) g true : Int) == (p : Int))))]) := by
 have HP : Hid (∀ (q : Nat), q ≤ s.size → ∀ ww, qC 249 #[.string s, .int .i64 q, .bool g] ww (.int .i64 (Nib.wstep s g q))) := fun q hq ww => sWordStep_any s q g ww hs hq
 have HN : qH 241 #[.agg #[.string s, .int .i64 (p), .int .i64 (n), .bool true, .bool false]] (.int .i64 ((max n 1 : Nat) : Int)) := by
  intro ww
  have := sNumber_any s p n true false ww
  rw [show max (n : Int) 1 = ((max n 1 : Nat) : Int) by omega] at this
  exact this
 have hN1 : 1 ≤ max n 1 := by omega
 have hN2 : max n 1 ≤ 99 := by omega
 generalize max n 1 = N at *
 have HU : qH 240 #[.agg #[.string s, .int .i64 (p), .int .i64 (n), .bool true, .bool false], .int .i64 (Nib.wordQ s p N g true : Nat), .int .i64 0] (.tuple #[.agg #[.int .i64 (wayX (((Nib.wordQ s p N g true : Int), 0, (Nib.wordQ s p N g true : Int) == (p : Int)))), .int .i64 (wayK (((Nib.wordQ s p N g true : Int), 0, (Nib.wordQ s p N g true : Int) == (p : Int))))], .bool (wayZ (((Nib.wordQ s p N g true : Int), 0, (Nib.wordQ s p N g true : Int) == (p : Int))))]) := fun ww => sUnless_any s p n _ 0 true false ww
 generalize (((Nib.wordQ s p N g true : Nat) : Int), (0 : Int), (((Nib.wordQ s p N g true : Nat) : Int) == (p : Int))) = R at *
 have HK : qH 250 #[.string s, .int .i64 (Nib.itr (Nib.wstep s g) (N - 1) p : Nat), .int .i64 (Nib.itr (Nib.wstep s g) N p : Nat)] (.int .i64 (Nib.wordQ s p N g true : Nat)) := by
  exact qt50
 generalize Nib.wordQ s p N g true = Z at *
 go_enter Tryz.func208, Tryz.ntmps208
 have F : Five ((w.alloc (.cells #[.string s, .int .i64 (p), .int .i64 (n), .bool true, .bool false] 206)).alloc (.cells #[.int .i64 0, .int .i64 0] 202)) w.heap.size s p n true false := Five.alloc (Five.new _ _ _ _ _ _ _) _
 have RB : Two ((w.alloc (.cells #[.string s, .int .i64 (p), .int .i64 (n), .bool true, .bool false] 206)).alloc (.cells #[.int .i64 0, .int .i64 0] 202)) (w.heap.size + 1) 0 0 := qN
 go_wp2_with fail
 go_region
 go_wp2_with fail
 refine (HN.out _).mono ?_
 rintro r1 w1 ⟨rfl, h1⟩
 obtain ⟨hc1, hf1, hz1⟩ := qb h1
 (try simp at hz1)
 have F1 : Five w1 (w.heap.size) s p n true false := qF
 have ⟨F1_0, F1_1, F1_2, F1_3, F1_4, F1_z, F1_l⟩ := F1
 have RB1 : Two w1 (w.heap.size + 1) (0) (0) := qTw
 have ⟨RB1_0, RB1_1, RB1_z, RB1_l⟩ := RB1
 go_wp2
 go_loopw [6, 7, 27] (fun f q i wr => ∃ k : Nat, k ≤ N ∧ f = .int .i64 (Nib.itr (Nib.wstep s g) (k - 1) p : Nat) ∧ q = .int .i64 (Nib.itr (Nib.wstep s g) k p : Nat) ∧ i = .int .i64 k ∧ Five wr w.heap.size s p n true false ∧ Two wr (w.heap.size + 1) 0 0 ∧ Below w.heap.size w wr) (fun _ _ i _ => N - (intOf i).toNat)
 case atStart =>
  refine ⟨0, by omega, rfl, rfl, rfl, F1, RB1, ?_⟩
  repeat exact qB
 case round =>
  clear F RB h1 hc1 hf1 F1_0 F1_1 F1_2 F1_3 F1_4 F1_z F1_l RB1_0 RB1_1 RB1_z RB1_l
  obtain ⟨k, hk, rfl, rfl, rfl, F, RB, hB⟩ := hrel
  have hq := Nib.itr_w_le (g := g) hp k
  have ⟨f0, f1, f2, f3, f4, fz, fl⟩ := F
  have r0 := (RB).c0
  have r1 := (RB).c1
  have rz := (RB).fz
  have rl := (RB).lt
  have hzz := hB.size
  by_cases hlt : k < N
  ·have HS : qH 249 #[.string s, .int .i64 (Nib.itr (Nib.wstep s g) k p : Nat), .bool g] (.int .i64 (Nib.itr (Nib.wstep s g) (k + 1) p : Nat)) := fun ww => HP.out _ hq ww
   generalize hA : Nib.itr (Nib.wstep s g) (k + 1) p = A at *
   go_wp2_with fail
   refine (HS.out _).mono ?_
   rintro r2 w2 ⟨rfl, h2⟩
   obtain ⟨hc2, hf2, hz2⟩ := qb h2
   (try simp at hz2)
   have F2 : Five w2 (w.heap.size) s p n true false := qF
   exact qt77
  ·have ek : k = N := by omega
   subst ek
   generalize Nib.itr (Nib.wstep s g) (k - 1) p = E at *
   generalize Nib.itr (Nib.wstep s g) k p = A at *
   have s0 := f0; have s1 := f1; have s2 := f2; have s3 := f3; have s4 := f4
   clear HP HN F f0 f1 f2 f3 f4
   go_wp2_with fail
   go_region_held3 (fun ww => ww.cell? ⟨w.heap.size, 0, none⟩ = some (.string s) ∧ ww.cell? ⟨w.heap.size, 1, none⟩ = some (.int .i64 p) ∧ ww.cell? ⟨w.heap.size, 2, none⟩ = some (.int .i64 n) ∧ ww.cell? ⟨w.heap.size, 3, none⟩ = some (.bool true) ∧ ww.cell? ⟨w.heap.size, 4, none⟩ = some (.bool false)) ((refine ⟨?_, ?_, ?_, ?_, ?_⟩ <;> (first | ((repeat exact qM); done) | (go_simp; done)))) (first | (go_at_call 250; refine (HK.out _).mono ?_; rintro r4 w4 ⟨rfl, h4⟩; obtain ⟨hc4, hf4, hz4⟩ := qb h4; (try simp at hz4); (try have ⟨hl4_0, hk4_0⟩ := qL w.heap.size w4.heap.size); have RB4 : Two w4 (w.heap.size + 1) (0) (0) := qTw; have ⟨RB4_0, RB4_1, RB4_z, RB4_l⟩ := RB4) | (go_at_call 240; refine (HU.out _).mono ?_; rintro r5 w5 ⟨rfl, h5⟩; obtain ⟨hc5, hf5, hz5⟩ := qb h5; (try simp at hz5); (try have ⟨hl5_0, hk5_0⟩ := qL w.heap.size w5.heap.size); have RB5 : Two w5 (w.heap.size + 1) (0) (0) := qTw; have ⟨RB5_0, RB5_1, RB5_z, RB5_l⟩ := RB5))
   exact qt37
theorem mMarked_lines (r d : Nat) (p : Pg) (w : World) (h : RdAt w r d p) (hs : p.t.size ≤ 1000) (hl : p.pl ≤ p.t.size) (ha : p.anchor ≤ p.t.size) (hm : p.mode = 3) :
  qC 313 #[.agg #[.pointer (some ⟨r, 0, none⟩)]] w (.agg #[.int .i64 (min (Nib.beg p.t p.anchor) (Nib.beg p.t p.pl)), .int .i64 (max (Nib.fin p.t p.anchor) (Nib.fin p.t p.pl)), .bool true]) := by
 have HLs : qH 182 #[.string p.t, .int .i64 (p.anchor : Nat), .int .i64 (p.pl : Nat)] (.agg #[.int .i64 (min (Nib.beg p.t p.anchor) (Nib.beg p.t p.pl)), .int .i64 (max (Nib.fin p.t p.anchor) (Nib.fin p.t p.pl)), .bool true]) := fun ww => tLines_any p.t _ _ p.anchor p.pl ww hs rfl rfl ha hl
 generalize min (Nib.beg p.t p.anchor : Int) (Nib.beg p.t p.pl) = U at *
 generalize max (Nib.fin p.t p.anchor : Int) (Nib.fin p.t p.pl) = V at *
 have H := h
 have r0 := h.bg.c0
 have d0 := h.dk.c0
 have d1 := h.dk.c1
 have d2 := h.dk.c2
 have d3 := h.dk.c3
 rw [hm] at d3
 have hld := h.dk.lt
 have hlr := h.bg.lt
 clear h hm
 have l1 : r < w.heap.size + 1 := by omega
 have l2 : d < w.heap.size + 1 := by omega
 go_enter Tryz.func313, Tryz.ntmps313
 have g0 : ((w.alloc (.cells #[.pointer (some ⟨r, 0, none⟩)] 81)).alloc (.cells #[.int .i64 0, .int .i64 0, .bool false] 186)).cell? ⟨w.heap.size, 0, none⟩ = some (.pointer (some ⟨r, 0, none⟩)) := by simp
 go_wp2_with fail
 go_region_held3 (fun ww => ww.cell? ⟨w.heap.size, 0, none⟩ = some (.pointer (some ⟨r, 0, none⟩)) ∧ ww.cell? ⟨r, 0, none⟩ = some (.pointer (some ⟨d, 0, none⟩)) ∧ ww.cell? ⟨d, 0, none⟩ = some (.string p.t) ∧ ww.cell? ⟨d, 1, none⟩ = some (.int .i64 p.pl) ∧ ww.cell? ⟨d, 2, none⟩ = some (.int .i64 p.anchor)) (exact qK) ((go_at_call 182; refine Calls.mono (HLs.out _) ?_; rintro r4 w4 ⟨rfl, h4⟩; have hz4 := h4.size; (try simp at hz4); (try have ⟨hl4_0, hk4_0⟩ := qL d w4.heap.size); (try have ⟨hl4_1, hk4_1⟩ := qL r w4.heap.size); (try have ⟨hl4_2, hk4_2⟩ := qL w.heap.size w4.heap.size); obtain ⟨hc4, hf4⟩ := bcell h4; have hb4_0 := fun o => hc4 (w.heap.size + 1) o qO; have fb4_0 := fun o => hf4 (w.heap.size + 1) o qO; (try have hg4_0 : w.heap.size + 1 < w4.heap.size := qo); clear hc4 hf4))
 go_wp2
 exact qV (.agg #[.int .i64 U, .int .i64 V, .bool true]) (by simp [results, Tryz.results313, go_sem, hb4_0]) rfl
abbrev HasB (A : World → Prop) (b r d : Nat) (p : Pg) : Prop := ∀ w, A w → (∃ tv dg, BdAt w b r d tv dg) ∧ RdAt w r d p
abbrev GivesT (f : Nat) (args : Array Value) (A B : World → Prop) : Prop := Hid (∀ ww, A ww → Calls Tryz.prog f args ww fun e w' => e = .returned (.tuple #[]) ∧ B w')
theorem press_go (b r d : Nat) (p : Pg) (key : Int) (A B C : World → Prop) (w : World) (hA : A w) (pA : HasB A b r d p) (pB : ∀ ww, B ww → ∃ tv dg, BdAt ww b r d tv dg)
  (HT : Hid (∀ ww, A ww → Calls Tryz.prog 46 #[.pointer (some ⟨b, 0, none⟩), .int .u8 key] ww fun e w' => e = .returned (.int .i64 0) ∧ B w'))
  (HK : GivesT 47 #[.pointer (some ⟨b, 1, none⟩), .int .u8 key, .int .i64 p.mode] B C) :
  Calls Tryz.prog 38 #[.pointer (some ⟨b, 0, none⟩), .int .u8 key] w fun e w' => e = .returned (.int .i64 0) ∧ C w' := by
 obtain ⟨⟨tv, dg, HB⟩, HR⟩ := pA w hA
 have b0 := HB.c0
 have r0 := HR.bg.c0
 have d3 := HR.dk.c3
 have bl := HB.lt
 have rl := HR.bg.lt
 have dl := HR.dk.lt
 have pB' : Hid (∀ ww, B ww → ∃ tv dg, BdAt ww b r d tv dg) := pB
 clear pB pA
 go_enter Tryz.func38, Tryz.ntmps38
 go_wp2_with fail
 refine Calls.mono (HT.out _ hA) ?_
 rintro e w1 ⟨rfl, h1⟩
 obtain ⟨tv1, dg1, B1⟩ := pB'.out w1 h1
 have bl1 := B1.lt
 go_wp2_with fail
 refine Calls.mono (HK.out _ h1) ?_
 rintro e w2 ⟨rfl, h2⟩
 have HC : Hid (C w2) := h2
 clear h1 h2
 go_wp2
 go_ret
 exact ⟨rfl, HC.out⟩
theorem press_ins (b r d : Nat) (p p2 : Pg) (key O : Int) (A B C : World → Prop) (w : World) (hA : A w) (pA : HasB A b r d p) (pB : ∀ ww, B ww → ∃ tv dg, BdAt ww b r d tv dg) (pC : HasB C b r d p2) (hO : ¬ O = 0) (hm : p2.mode = 1)
  (HT : Hid (∀ ww, A ww → Calls Tryz.prog 46 #[.pointer (some ⟨b, 0, none⟩), .int .u8 key] ww fun e w' => e = .returned (.int .i64 O) ∧ B w'))
  (HK : GivesT 47 #[.pointer (some ⟨b, 1, none⟩), .int .u8 key, .int .i64 p.mode] B C) :
  Calls Tryz.prog 38 #[.pointer (some ⟨b, 0, none⟩), .int .u8 key] w fun e w' => e = .returned (.int .i64 O) ∧ C w' := by
 obtain ⟨⟨tv, dg, HB⟩, HR⟩ := pA w hA
 have b0 := HB.c0
 have r0 := HR.bg.c0
 have d3 := HR.dk.c3
 have bl := HB.lt
 have rl := HR.bg.lt
 have dl := HR.dk.lt
 have pB' : Hid (∀ ww, B ww → ∃ tv dg, BdAt ww b r d tv dg) := pB
 have pC' : Hid (HasB C b r d p2) := pC
 have hO' : (O == 0) = false := by simp [hO]
 have hO2 : (O != 0) = true := by simp [hO]
 have hm' : (p2.mode != 1) = false := by simp [hm]
 have hm2 : (p2.mode == 1) = true := by simp [hm]
 clear pB pA pC hO hm
 go_enter Tryz.func38, Tryz.ntmps38
 go_wp2_with fail
 refine Calls.mono (HT.out _ hA) ?_
 rintro e w1 ⟨rfl, h1⟩
 obtain ⟨tv1, dg1, B1⟩ := pB'.out w1 h1
 have bl1 := B1.lt
 go_wp2_with fail
 refine Calls.mono (HK.out _ h1) ?_
 rintro e w2 ⟨rfl, h2⟩
 obtain ⟨⟨tv2, dg2, B2⟩, R2⟩ := pC'.out w2 h2
 have e0 := B2.c0
 have e1 := R2.bg.c0
 have e2 := R2.dk.c3
 have HC : Hid (C w2) := h2
 clear h1 h2
 go_wp2
 go_ret
 exact ⟨rfl, HC.out⟩
end Go.Proofs.YtlendfhehhacpaaGreat
