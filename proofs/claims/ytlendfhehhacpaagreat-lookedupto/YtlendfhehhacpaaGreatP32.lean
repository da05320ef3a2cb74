/- Joined of the texts WaysJ, WaysT. -/
import Derived.Test.YtlendfhehhacpaaGreatP31
import Derived.Test.YtlendfhehhacpaaGreatP22
import Derived.Test.YtlendfhehhacpaaGreatP30
import Derived.Test.YtlendfhehhacpaaGreatP20
import Derived.Test.YtlendfhehhacpaaGreatP16
import Derived.Test.YtlendfhehhacpaaGreatP14
import Derived.Test.YtlendfhehhacpaaGreatP12
import Derived.Test.YtlendfhehhacpaaGreatP11
import Derived.Test.YtlendfhehhacpaaGreatP21
set_option linter.unusedVariables false
set_option linter.unusedSimpArgs false
set_option maxRecDepth 100000
set_option maxHeartbeats 8000000
namespace Go.Proofs.YtlendfhehhacpaaGreat
open Go.RowKit
theorem sToWord_plain (s : ByteArray) (p n : Nat) (g : Bool) (w : World) (hs : s.size ≤ 1000) (hp : p ≤ s.size) (hn : n ≤ 99) :
    Calls Tryz.prog 208 #[.agg #[.string s, .int .i64 (p), .int .i64 (n), .bool false, .bool false], .bool g] w fun e w' => e = .returned (.tuple #[.agg #[.int .i64 (wayX (((Nib.wordQ s p (max n 1) g false : Int), 0, (Nib.wordQ s p (max n 1) g false : Int) == (p : Int)))), .int .i64 (wayK (((Nib.wordQ s p (max n 1) g false : Int), 0, (Nib.wordQ s p (max n 1) g false : Int) == (p : Int))))], .bool (wayZ (((Nib.wordQ s p (max n 1) g false : Int), 0, (Nib.wordQ s p (max n 1) g false : Int) == (p : Int))))]) ∧ Below w.heap.size w w' := by
  have HP : Hid (∀ (q : Nat), q ≤ s.size → ∀ ww, Calls Tryz.prog 249 #[.string s, .int .i64 q, .bool g] ww fun e w' => e = .returned (.int .i64 (Nib.wstep s g q)) ∧ Below ww.heap.size ww w') := fun q hq ww => sWordStep_any s q g ww hs hq
  have HN : Hid (∀ ww, Calls Tryz.prog 241 #[.agg #[.string s, .int .i64 (p), .int .i64 (n), .bool false, .bool false]] ww fun e w' => e = .returned (.int .i64 ((max n 1 : Nat) : Int)) ∧ Below ww.heap.size ww w') := by
    intro ww
    have := sNumber_any s p n false false ww
    rw [show max (n : Int) 1 = ((max n 1 : Nat) : Int) by omega] at this
    exact this
  have hN1 : 1 ≤ max n 1 := by omega
  have hN2 : max n 1 ≤ 99 := by omega
  generalize max n 1 = N at *
  have HU : Hid (∀ ww, Calls Tryz.prog 240 #[.agg #[.string s, .int .i64 (p), .int .i64 (n), .bool false, .bool false], .int .i64 (Nib.wordQ s p N g false : Nat), .int .i64 0] ww fun e w' => e = .returned (.tuple #[.agg #[.int .i64 (wayX (((Nib.wordQ s p N g false : Int), 0, (Nib.wordQ s p N g false : Int) == (p : Int)))), .int .i64 (wayK (((Nib.wordQ s p N g false : Int), 0, (Nib.wordQ s p N g false : Int) == (p : Int))))], .bool (wayZ (((Nib.wordQ s p N g false : Int), 0, (Nib.wordQ s p N g false : Int) == (p : Int))))]) ∧ Below ww.heap.size ww w') := fun ww => sUnless_any s p n _ 0 false false ww
  generalize (((Nib.wordQ s p N g false : Nat) : Int), (0 : Int), (((Nib.wordQ s p N g false : Nat) : Int) == (p : Int))) = R at *
  have hlast := Nib.beg_le s s.size
  have HLast : Hid (∀ ww, Calls Tryz.prog 195 #[.string s, .int .i64 s.size] ww fun e w' => e = .returned (.agg #[.int .i64 (Nib.beg s s.size), .int .i64 (Nib.fin s s.size)]) ∧ Below ww.heap.size ww w') := fun ww => tLine_any s s.size s.size ww hs rfl (Nat.le_refl _)
  have hfl := Nib.fin_le (Nat.le_refl s.size)
  have HT : Hid (∀ ww, Calls Tryz.prog 202 #[.agg #[.int .i64 (Nib.beg s s.size), .int .i64 (Nib.fin s s.size)]] ww fun e w' => e = .returned (.int .i64 (Nib.lst s s.size : Nat)) ∧ Below ww.heap.size ww w') := by
    intro ww; rw [Nib.lst_max]; exact tLast_any _ _ ww (by omega)
  have HEnd : Hid (∀ ww, Calls Tryz.prog 246 #[.string s] ww fun e w' => e = .returned (.int .i64 s.size) ∧ Below ww.heap.size ww w') := by
    intro ww
    refine (tEnd_any s ww).mono ?_
    rintro e w' ⟨rfl, rfl⟩
    exact ⟨rfl, Below.refl _ _⟩
  have HV : Hid (((Nib.wordQ s p N g false : Nat) : Int) = if ((Nib.lst s s.size : Nat) : Int) < ((Nib.itr (Nib.wstep s g) N p : Nat) : Int) then ((Nib.lst s s.size : Nat) : Int) else ((Nib.itr (Nib.wstep s g) N p : Nat) : Int)) := by
    rw [Hid]
    unfold Nib.wordQ
    rw [if_neg (by simp)]
    obtain ⟨k, rfl⟩ : ∃ k, N = k + 1 := ⟨N - 1, by omega⟩
    exact Nib.clm_word (Nib.itr_w_le hp k)
  generalize Nib.lst s s.size = LL at *
  generalize Nib.beg s s.size = LB at *
  generalize Nib.fin s s.size = LF at *
  go_enter Tryz.func208, Tryz.ntmps208
  have F : Five ((w.alloc (.cells #[.string s, .int .i64 (p), .int .i64 (n), .bool false, .bool false] 206)).alloc (.cells #[.int .i64 0, .int .i64 0] 202)) w.heap.size s p n false false := Five.alloc (Five.new _ _ _ _ _ _ _) _
  have RB : Two ((w.alloc (.cells #[.string s, .int .i64 (p), .int .i64 (n), .bool false, .bool false] 206)).alloc (.cells #[.int .i64 0, .int .i64 0] 202)) (w.heap.size + 1) 0 0 := by have := Two.new (w.alloc (.cells #[.string s, .int .i64 (p), .int .i64 (n), .bool false, .bool false] 206)) 0 0 202; simpa using this
  go_wp2_with fail
  go_region
  go_wp2_with fail
  refine (HN.out _).mono ?_
  rintro r1 w1 ⟨rfl, h1⟩
  obtain ⟨hc1, hf1⟩ := bcell h1
  have hz1 := h1.size
  (try simp at hz1)
  have F1 : Five w1 (w.heap.size) s p n false false := (by repeat (with_reducible first | exact F | refine f_o ?_ _ | refine Five.alloc ?_ _ | refine Five.drewN ?_ _ | refine Five.drew ?_ | refine Five.below ?_ h1))
  have F1_0 := F1.c0
  have F1_1 := F1.c1
  have F1_2 := F1.c2
  have F1_3 := F1.c3
  have F1_4 := F1.c4
  have F1_z := F1.fz
  have F1_l := F1.lt
  have RB1 : Two w1 (w.heap.size + 1) (0) (0) := (by repeat (with_reducible first | exact RB | refine t_o ?_ _ | refine Two.alloc ?_ _ | refine Two.drewN ?_ _ | refine Two.drew ?_ | refine Two.below ?_ h1))
  have RB1_0 := RB1.c0
  have RB1_1 := RB1.c1
  have RB1_z := RB1.fz
  have RB1_l := RB1.lt
  go_wp2
  go_loopw [7, 27] (fun q i wr => ∃ k : Nat, k ≤ N ∧ q = .int .i64 (Nib.itr (Nib.wstep s g) k p : Nat) ∧ i = .int .i64 k ∧ Five wr w.heap.size s p n false false ∧ Two wr (w.heap.size + 1) 0 0 ∧ Below w.heap.size w wr) (fun _ i _ => N - (intOf i).toNat)
  case atStart =>
    refine ⟨0, by omega, rfl, rfl, F1, RB1, ?_⟩
    repeat (with_reducible first | exact Below.refl _ _ | refine b_s ?_ _ | refine b_a ?_ _ | refine Below.drew ?_ | refine below_drewN ?_ _ | refine b_t ?_ h1)
  case round =>
    clear F RB h1 hc1 hf1 F1_0 F1_1 F1_2 F1_3 F1_4 F1_z F1_l RB1_0 RB1_1 RB1_z RB1_l
    obtain ⟨k, hk, rfl, rfl, F, RB, hB⟩ := hrel
    have hq := Nib.itr_w_le (g := g) hp k
    have f0 := F.c0; have f1 := F.c1; have f2 := F.c2; have f3 := F.c3; have f4 := F.c4; have fz := F.fz; have fl := F.lt
    have r0 := (RB).c0
    have r1 := (RB).c1
    have rz := (RB).fz
    have rl := (RB).lt
    have hzz := hB.size
    by_cases hlt : k < N
    · have HS : Hid (∀ ww, Calls Tryz.prog 249 #[.string s, .int .i64 (Nib.itr (Nib.wstep s g) k p : Nat), .bool g] ww fun e w' => e = .returned (.int .i64 (Nib.itr (Nib.wstep s g) (k + 1) p : Nat)) ∧ Below ww.heap.size ww w') := fun ww => HP.out _ hq ww
      generalize hA : Nib.itr (Nib.wstep s g) (k + 1) p = A at *
      go_wp2_with fail
      refine (HS.out _).mono ?_
      rintro r2 w2 ⟨rfl, h2⟩
      obtain ⟨hc2, hf2⟩ := bcell h2
      have hz2 := h2.size
      (try simp at hz2)
      have F2 : Five w2 (w.heap.size) s p n false false := (by repeat (with_reducible first | exact F | refine f_o ?_ _ | refine Five.alloc ?_ _ | refine Five.drewN ?_ _ | refine Five.drew ?_ | refine Five.below ?_ h2))
      have F2_0 := F2.c0
      have F2_1 := F2.c1
      have F2_2 := F2.c2
      have F2_3 := F2.c3
      have F2_4 := F2.c4
      have F2_z := F2.fz
      have F2_l := F2.lt
      have RB2 : Two w2 (w.heap.size + 1) (0) (0) := (by repeat (with_reducible first | exact RB | refine t_o ?_ _ | refine Two.alloc ?_ _ | refine Two.drewN ?_ _ | refine Two.drew ?_ | refine Two.below ?_ h2))
      have RB2_0 := RB2.c0
      have RB2_1 := RB2.c1
      have RB2_z := RB2.fz
      have RB2_l := RB2.lt
      go_wp2
      go_round
      case rel =>
        refine ⟨k + 1, by omega, by rw [hA], by go_num, F2, RB2, ?_⟩
        repeat (with_reducible first | exact Below.refl _ _ | refine b_s ?_ _ | refine b_a ?_ _ | refine Below.drew ?_ | refine below_drewN ?_ _ | refine b_t ?_ h2 | refine b_t ?_ hB)
      case measure => simp [intOf] <;> omega
    · have ek : k = N := by omega
      subst ek
      rw [HV.out] at HU
      clear HV
      generalize Nib.itr (Nib.wstep s g) k p = A at *
      have hcast : (if (LL : Int) < (A : Int) then (LL : Int) else (A : Int)) = (if LL < A then (LL : Int) else (A : Int)) := by split <;> split <;> omega
      rw [hcast] at HU
      clear hcast
      generalize hX : (if LL < A then (LL : Int) else (A : Int)) = X at HU
      have s0 := f0; have s1 := f1; have s2 := f2; have s3 := f3; have s4 := f4
      go_wp2_with fail
      go_region_held3 (fun ww => ww.cell? ⟨w.heap.size, 0, none⟩ = some (.string s) ∧ ww.cell? ⟨w.heap.size, 1, none⟩ = some (.int .i64 p) ∧ ww.cell? ⟨w.heap.size, 2, none⟩ = some (.int .i64 n) ∧ ww.cell? ⟨w.heap.size, 3, none⟩ = some (.bool false) ∧ ww.cell? ⟨w.heap.size, 4, none⟩ = some (.bool false)) ((refine ⟨?_, ?_, ?_, ?_, ?_⟩ <;> (first | ((repeat (first | with_reducible assumption | (with_reducible refine memLater ((Below.refl _ _).alloc (Nat.le_refl _) _) ?_) | (with_reducible refine memLater ((Below.refl _ _).drew) ?_) | (with_reducible refine memLater h2 ?_) | (with_reducible refine memLater h3 ?_) | (with_reducible refine (memSet (by omega)).trans ?_))); done) | (go_simp; done)))) (first | (go_at_call 246; refine (HEnd.out _).mono ?_; rintro r2 w2 ⟨rfl, h2⟩; obtain ⟨hc2, hf2⟩ := bcell h2; have hz2 := h2.size; (try simp at hz2); (try have hl2_0 : w.heap.size < w2.heap.size := (by omega)); (try have hk2_0 : w.heap.size < w2.heap.size + 1 := (by omega)); (try have hl2_1 : wr.heap.size < w2.heap.size := (by omega)); (try have hk2_1 : wr.heap.size < w2.heap.size + 1 := (by omega)); (try have hl2_2 : w2.heap.size < w2.heap.size := (by omega)); (try have hk2_2 : w2.heap.size < w2.heap.size + 1 := (by omega)); have RB2 : Two w2 (w.heap.size + 1) (0) (0) := (by repeat (with_reducible first | exact RB | refine t_o ?_ _ | refine Two.alloc ?_ _ | refine Two.drewN ?_ _ | refine Two.drew ?_ | refine Two.below ?_ h2)); have RB2_0 := RB2.c0; have RB2_1 := RB2.c1; have RB2_z := RB2.fz; have RB2_l := RB2.lt) | (go_at_call 195; refine (HLast.out _).mono ?_; rintro r3 w3 ⟨rfl, h3⟩; obtain ⟨hc3, hf3⟩ := bcell h3; have hz3 := h3.size; (try simp at hz3); (try have hl3_0 : w.heap.size < w3.heap.size := (by omega)); (try have hk3_0 : w.heap.size < w3.heap.size + 1 := (by omega)); (try have hl3_1 : wr.heap.size < w3.heap.size := (by omega)); (try have hk3_1 : wr.heap.size < w3.heap.size + 1 := (by omega)); (try have hl3_2 : w2.heap.size < w3.heap.size := (by omega)); (try have hk3_2 : w2.heap.size < w3.heap.size + 1 := (by omega)); have RB3 : Two w3 (w.heap.size + 1) (0) (0) := (by repeat (with_reducible first | exact RB | refine t_o ?_ _ | refine Two.alloc ?_ _ | refine Two.drewN ?_ _ | refine Two.drew ?_ | refine Two.below ?_ h2 | refine Two.below ?_ h3)); have RB3_0 := RB3.c0; have RB3_1 := RB3.c1; have RB3_z := RB3.fz; have RB3_l := RB3.lt))
      · have T : Two (w3.alloc (.cells #[.int .i64 LB, .int .i64 LF] 128)) (w3.heap.size) LB LF := Two.new _ _ _ _
        have t0 := T.c0
        have t1 := T.c1
        clear hc2 hf2 hc3 hf3 HP HN HEnd HLast F f0 f1 f2 f3 f4
        go_wp2_with fail
        go_region_held3 (fun ww => ww.cell? ⟨w.heap.size, 0, none⟩ = some (.string s) ∧ ww.cell? ⟨w.heap.size, 1, none⟩ = some (.int .i64 p) ∧ ww.cell? ⟨w.heap.size, 2, none⟩ = some (.int .i64 n) ∧ ww.cell? ⟨w.heap.size, 3, none⟩ = some (.bool false) ∧ ww.cell? ⟨w.heap.size, 4, none⟩ = some (.bool false) ∧ ww.cell? ⟨w3.heap.size, 0, none⟩ = some (.int .i64 LB) ∧ ww.cell? ⟨w3.heap.size, 1, none⟩ = some (.int .i64 LF)) ((refine ⟨?_, ?_, ?_, ?_, ?_, ?_, ?_⟩ <;> (first | ((repeat (first | with_reducible assumption | (with_reducible refine memLater ((Below.refl _ _).alloc (Nat.le_refl _) _) ?_) | (with_reducible refine memLater ((Below.refl _ _).drew) ?_) | (with_reducible refine memLater h4 ?_) | (with_reducible refine memLater h5 ?_) | (with_reducible refine memLater h3 ?_) | (with_reducible refine memLater h2 ?_) | (with_reducible refine (memSet (by omega)).trans ?_))); done) | (go_simp; done)))) (first | (go_at_call 202; refine (HT.out _).mono ?_; rintro r4 w4 ⟨rfl, h4⟩; obtain ⟨hc4, hf4⟩ := bcell h4; have hz4 := h4.size; (try simp at hz4); (try have hl4_0 : w.heap.size < w4.heap.size := (by omega)); (try have hk4_0 : w.heap.size < w4.heap.size + 1 := (by omega)); (try have hl4_1 : w3.heap.size < w4.heap.size := (by omega)); (try have hk4_1 : w3.heap.size < w4.heap.size + 1 := (by omega)); have RB4 : Two w4 (w.heap.size + 1) (0) (0) := (by repeat (with_reducible first | exact RB | refine t_o ?_ _ | refine Two.alloc ?_ _ | refine Two.drewN ?_ _ | refine Two.drew ?_ | refine Two.below ?_ h4 | refine Two.below ?_ h3 | refine Two.below ?_ h2)); have RB4_0 := RB4.c0; have RB4_1 := RB4.c1; have RB4_z := RB4.fz; have RB4_l := RB4.lt) | (go_at_call 240; refine (HU.out _).mono ?_; rintro r5 w5 ⟨rfl, h5⟩; obtain ⟨hc5, hf5⟩ := bcell h5; have hz5 := h5.size; (try simp at hz5); (try have hl5_0 : w.heap.size < w5.heap.size := (by omega)); (try have hk5_0 : w.heap.size < w5.heap.size + 1 := (by omega)); (try have hl5_1 : w3.heap.size < w5.heap.size := (by omega)); (try have hk5_1 : w3.heap.size < w5.heap.size + 1 := (by omega)); have RB5 : Two w5 (w.heap.size + 1) (0) (0) := (by repeat (with_reducible first | exact RB | refine t_o ?_ _ | refine Two.alloc ?_ _ | refine Two.drewN ?_ _ | refine Two.drew ?_ | refine Two.below ?_ h4 | refine Two.below ?_ h5 | refine Two.below ?_ h3 | refine Two.below ?_ h2)); have RB5_0 := RB5.c0; have RB5_1 := RB5.c1; have RB5_z := RB5.fz; have RB5_l := RB5.lt))
        clear hc4 hf4 hc5 hf5
        go_wp2
        all_goals
          first
            | (refine bodyPost_ret (v := .tuple #[.agg #[.int .i64 (wayX (R)), .int .i64 (wayK (R))], .bool (wayZ (R))]) (by simp [results, Tryz.results208, go_sem, RB5_0, RB5_1, RB5_z, RB5_l]) rfl ⟨rfl, ?_⟩ <;> repeat (with_reducible first | exact Below.refl _ _ | refine b_s ?_ _ | refine b_a ?_ _ | refine Below.drew ?_ | refine below_drewN ?_ _ | refine b_t ?_ h5 | refine b_t ?_ h4 | refine b_t ?_ h3 | refine b_t ?_ h2 | refine b_t ?_ hB))
      · have Tb : Two w3 (w2.heap.size) 0 0 := Two.below (Two.new _ 0 0 _) h3
        have e0 := (Tb).c0
        have e1 := (Tb).c1
        have ez := (Tb).fz
        have el := (Tb).lt
        have T : Two ((w3.setCell ⟨w2.heap.size, 0, none⟩ (.int .i64 LB)).setCell ⟨w2.heap.size, 1, none⟩ (.int .i64 LF)) (w2.heap.size) LB LF := Two.set1 (Two.set0 Tb _) _
        have t0 := T.c0
        have t1 := T.c1
        clear hc2 hf2 hc3 hf3 HP HN HEnd HLast F f0 f1 f2 f3 f4
        go_wp2_with fail
        go_region_held3 (fun ww => ww.cell? ⟨w.heap.size, 0, none⟩ = some (.string s) ∧ ww.cell? ⟨w.heap.size, 1, none⟩ = some (.int .i64 p) ∧ ww.cell? ⟨w.heap.size, 2, none⟩ = some (.int .i64 n) ∧ ww.cell? ⟨w.heap.size, 3, none⟩ = some (.bool false) ∧ ww.cell? ⟨w.heap.size, 4, none⟩ = some (.bool false) ∧ ww.cell? ⟨w2.heap.size, 0, none⟩ = some (.int .i64 LB) ∧ ww.cell? ⟨w2.heap.size, 1, none⟩ = some (.int .i64 LF)) ((refine ⟨?_, ?_, ?_, ?_, ?_, ?_, ?_⟩ <;> (first | ((repeat (first | with_reducible assumption | (with_reducible refine memLater ((Below.refl _ _).alloc (Nat.le_refl _) _) ?_) | (with_reducible refine memLater ((Below.refl _ _).drew) ?_) | (with_reducible refine memLater h4 ?_) | (with_reducible refine memLater h5 ?_) | (with_reducible refine memLater h3 ?_) | (with_reducible refine memLater h2 ?_) | (with_reducible refine (memSet (by omega)).trans ?_))); done) | (go_simp; done)))) (first | (go_at_call 202; refine (HT.out _).mono ?_; rintro r4 w4 ⟨rfl, h4⟩; obtain ⟨hc4, hf4⟩ := bcell h4; have hz4 := h4.size; (try simp at hz4); (try have hl4_0 : w.heap.size < w4.heap.size := (by omega)); (try have hk4_0 : w.heap.size < w4.heap.size + 1 := (by omega)); (try have hl4_1 : w2.heap.size < w4.heap.size := (by omega)); (try have hk4_1 : w2.heap.size < w4.heap.size + 1 := (by omega)); have RB4 : Two w4 (w.heap.size + 1) (0) (0) := (by repeat (with_reducible first | exact RB | refine t_o ?_ _ | refine Two.alloc ?_ _ | refine Two.drewN ?_ _ | refine Two.drew ?_ | refine Two.below ?_ h4 | refine Two.below ?_ h3 | refine Two.below ?_ h2)); have RB4_0 := RB4.c0; have RB4_1 := RB4.c1; have RB4_z := RB4.fz; have RB4_l := RB4.lt) | (go_at_call 240; refine (HU.out _).mono ?_; rintro r5 w5 ⟨rfl, h5⟩; obtain ⟨hc5, hf5⟩ := bcell h5; have hz5 := h5.size; (try simp at hz5); (try have hl5_0 : w.heap.size < w5.heap.size := (by omega)); (try have hk5_0 : w.heap.size < w5.heap.size + 1 := (by omega)); (try have hl5_1 : w2.heap.size < w5.heap.size := (by omega)); (try have hk5_1 : w2.heap.size < w5.heap.size + 1 := (by omega)); have RB5 : Two w5 (w.heap.size + 1) (0) (0) := (by repeat (with_reducible first | exact RB | refine t_o ?_ _ | refine Two.alloc ?_ _ | refine Two.drewN ?_ _ | refine Two.drew ?_ | refine Two.below ?_ h4 | refine Two.below ?_ h5 | refine Two.below ?_ h3 | refine Two.below ?_ h2)); have RB5_0 := RB5.c0; have RB5_1 := RB5.c1; have RB5_z := RB5.fz; have RB5_l := RB5.lt))
        clear hc4 hf4 hc5 hf5
        go_wp2
        all_goals
          first
            | (refine bodyPost_ret (v := .tuple #[.agg #[.int .i64 (wayX (R)), .int .i64 (wayK (R))], .bool (wayZ (R))]) (by simp [results, Tryz.results208, go_sem, RB5_0, RB5_1, RB5_z, RB5_l]) rfl ⟨rfl, ?_⟩ <;> repeat (with_reducible first | exact Below.refl _ _ | refine b_s ?_ _ | refine b_a ?_ _ | refine Below.drew ?_ | refine below_drewN ?_ _ | refine b_t ?_ h5 | refine b_t ?_ h4 | refine b_t ?_ h3 | refine b_t ?_ h2 | refine b_t ?_ hB))
      · have Tb : Two w3 (wr.heap.size) 0 0 := Two.below (Two.below (Two.drew (Two.new _ 0 0 _)) h2) h3
        have e0 := (Tb).c0
        have e1 := (Tb).c1
        have ez := (Tb).fz
        have el := (Tb).lt
        have T : Two ((w3.setCell ⟨wr.heap.size, 0, none⟩ (.int .i64 LB)).setCell ⟨wr.heap.size, 1, none⟩ (.int .i64 LF)) (wr.heap.size) LB LF := Two.set1 (Two.set0 Tb _) _
        have t0 := T.c0
        have t1 := T.c1
        clear hc2 hf2 hc3 hf3 HP HN HEnd HLast F f0 f1 f2 f3 f4
        go_wp2_with fail
        go_region_held3 (fun ww => ww.cell? ⟨w.heap.size, 0, none⟩ = some (.string s) ∧ ww.cell? ⟨w.heap.size, 1, none⟩ = some (.int .i64 p) ∧ ww.cell? ⟨w.heap.size, 2, none⟩ = some (.int .i64 n) ∧ ww.cell? ⟨w.heap.size, 3, none⟩ = some (.bool false) ∧ ww.cell? ⟨w.heap.size, 4, none⟩ = some (.bool false) ∧ ww.cell? ⟨wr.heap.size, 0, none⟩ = some (.int .i64 LB) ∧ ww.cell? ⟨wr.heap.size, 1, none⟩ = some (.int .i64 LF)) ((refine ⟨?_, ?_, ?_, ?_, ?_, ?_, ?_⟩ <;> (first | ((repeat (first | with_reducible assumption | (with_reducible refine memLater ((Below.refl _ _).alloc (Nat.le_refl _) _) ?_) | (with_reducible refine memLater ((Below.refl _ _).drew) ?_) | (with_reducible refine memLater h4 ?_) | (with_reducible refine memLater h5 ?_) | (with_reducible refine memLater h3 ?_) | (with_reducible refine memLater h2 ?_) | (with_reducible refine (memSet (by omega)).trans ?_))); done) | (go_simp; done)))) (first | (go_at_call 202; refine (HT.out _).mono ?_; rintro r4 w4 ⟨rfl, h4⟩; obtain ⟨hc4, hf4⟩ := bcell h4; have hz4 := h4.size; (try simp at hz4); (try have hl4_0 : w.heap.size < w4.heap.size := (by omega)); (try have hk4_0 : w.heap.size < w4.heap.size + 1 := (by omega)); (try have hl4_1 : wr.heap.size < w4.heap.size := (by omega)); (try have hk4_1 : wr.heap.size < w4.heap.size + 1 := (by omega)); have RB4 : Two w4 (w.heap.size + 1) (0) (0) := (by repeat (with_reducible first | exact RB | refine t_o ?_ _ | refine Two.alloc ?_ _ | refine Two.drewN ?_ _ | refine Two.drew ?_ | refine Two.below ?_ h4 | refine Two.below ?_ h3 | refine Two.below ?_ h2)); have RB4_0 := RB4.c0; have RB4_1 := RB4.c1; have RB4_z := RB4.fz; have RB4_l := RB4.lt) | (go_at_call 240; refine (HU.out _).mono ?_; rintro r5 w5 ⟨rfl, h5⟩; obtain ⟨hc5, hf5⟩ := bcell h5; have hz5 := h5.size; (try simp at hz5); (try have hl5_0 : w.heap.size < w5.heap.size := (by omega)); (try have hk5_0 : w.heap.size < w5.heap.size + 1 := (by omega)); (try have hl5_1 : wr.heap.size < w5.heap.size := (by omega)); (try have hk5_1 : wr.heap.size < w5.heap.size + 1 := (by omega)); have RB5 : Two w5 (w.heap.size + 1) (0) (0) := (by repeat (with_reducible first | exact RB | refine t_o ?_ _ | refine Two.alloc ?_ _ | refine Two.drewN ?_ _ | refine Two.drew ?_ | refine Two.below ?_ h4 | refine Two.below ?_ h5 | refine Two.below ?_ h3 | refine Two.below ?_ h2)); have RB5_0 := RB5.c0; have RB5_1 := RB5.c1; have RB5_z := RB5.fz; have RB5_l := RB5.lt))
        clear hc4 hf4 hc5 hf5
        go_wp2
        all_goals
          first
            | (refine bodyPost_ret (v := .tuple #[.agg #[.int .i64 (wayX (R)), .int .i64 (wayK (R))], .bool (wayZ (R))]) (by simp [results, Tryz.results208, go_sem, RB5_0, RB5_1, RB5_z, RB5_l]) rfl ⟨rfl, ?_⟩ <;> repeat (with_reducible first | exact Below.refl _ _ | refine b_s ?_ _ | refine b_a ?_ _ | refine Below.drew ?_ | refine below_drewN ?_ _ | refine b_t ?_ h5 | refine b_t ?_ h4 | refine b_t ?_ h3 | refine b_t ?_ h2 | refine b_t ?_ hB))
theorem sGo_way (s : ByteArray) (p n : Nat) (key ch : Int) (b : Bool) (w : World) (hs : s.size ≤ 1000) (hp : p ≤ s.size) (hn : n ≤ 99) (hl : p ≤ Nib.lst s p) (hk : isPlainWay key = true)
    (HA : Hid (∀ ww, Calls Tryz.prog 254 #[.string (s.extract p (Nib.fin s p)), .string ⟨#[40, 41, 91, 93, 123, 125]⟩] ww fun e w' => e = .returned (.int .i64 (brkAt s p)) ∧ Below ww.heap.size ww w')) :
    Calls Tryz.prog 169 #[.int .u8 key, .agg #[.string s, .int .i64 (p), .int .i64 (n), .bool false, .bool false]] w fun e w' => e = .returned (.tuple #[.agg #[.int .i64 (wayX (Nib.goWay s p key ch (max n 1) (decide (0 < n)) false b)), .int .i64 (wayK (Nib.goWay s p key ch (max n 1) (decide (0 < n)) false b))], .bool (wayZ (Nib.goWay s p key ch (max n 1) (decide (0 < n)) false b))]) ∧ Below w.heap.size w w' := by
  simp only [isPlainWay, Bool.or_eq_true, beq_iff_eq] at hk
  rcases hk with ((((((((((((((((h | h) | h) | h) | h) | h) | h) | h) | h) | h) | h) | h) | h) | h) | h) | h) | h) | h
  all_goals subst h
  · exact sGo_104 s p n false false w _ (fun ww => sInLine_h s p n false false ww hs hp hn)
  · exact sGo_108 s p n false false w _ (fun ww => sInLine_l s p n false false ww hs hp hn (by simpa [Nib.mostL] using hl))
  · exact sGo_48 s p n false false w _ (fun ww => sInLine_0 s p n false false ww hs hp)
  · exact sGo_94 s p n false false w _ (fun ww => sInLine_hat s p n false false ww hs hp)
  · exact sGo_36 s p n false false w _ (fun ww => sInLine_eol s p n false false ww hs hp hn)
  · exact sGo_106 s p n false false w _ (fun ww => sToLine_j s p n false false (decide (0 < n)) ww hs hp hn)
  · exact sGo_107 s p n false false w _ (fun ww => sToLine_k s p n false false (decide (0 < n)) ww hs hp hn)
  · exact sGo_71 s p n false false w _ (fun ww => sToNumber_any s p n false false 71 ww hs hp hn (Or.inl rfl))
  · exact sGo_103 s p n false false w _ (fun ww => sToNumber_any s p n false false 103 ww hs hp hn (Or.inr rfl))
  · exact sGo_119 s p n false false w _ (fun ww => sToWord_plain s p n false ww hs hp hn)
  · exact sGo_87 s p n false false w _ (fun ww => sToWord_plain s p n true ww hs hp hn)
  · exact sGo_98 s p n false false w _ (fun ww => sToAhead_any s p n false false false ww hs hp hn)
  · exact sGo_66 s p n false false w _ (fun ww => sToAhead_any s p n false false true ww hs hp hn)
  · exact sGo_101 s p n false false w _ (fun ww => sToWordEnd_any s p n false false false ww hs hp hn)
  · exact sGo_69 s p n false false w _ (fun ww => sToWordEnd_any s p n false false true ww hs hp hn)
  · exact sGo_125 s p n false false w _ (fun ww => sToPar_any s p n false false true 1 ww hs hp hn rfl)
  · exact sGo_123 s p n false false w _ (fun ww => sToPar_any s p n false false false (-1) ww hs hp hn rfl)
  · exact sGo_37 s p n false false w _ (fun ww => sToPartner_gen s p n false false ww hs hp HA)
theorem sFind_go (s : ByteArray) (p n : Nat) (key ch : Int) (given : Bool) (w : World) (hs : s.size ≤ 1000) (hp : p ≤ s.size) (hn : n ≤ 99) (hk : Nib.isFind key = true) :
    Calls Tryz.prog 167 #[.agg #[.int .u8 key, .int .u8 ch], .agg #[.string s, .int .i64 (p), .int .i64 (n), .bool false, .bool false]] w fun e w' => e = .returned (.tuple #[.agg #[.int .i64 (wayX (Nib.goWay s p key ch (max n 1) given false false)), .int .i64 (wayK (Nib.goWay s p key ch (max n 1) given false false))], .bool (wayZ (Nib.goWay s p key ch (max n 1) given false false))]) ∧ Below w.heap.size w w' := by
  simp only [Nib.isFind, Bool.or_eq_true, beq_iff_eq] at hk
  have hk' : isFnd key := by unfold isFnd; omega
  refine sFindGo_gen s p n false false key ch w _ (fun ww => ?_)
  have := sGoFrom_any s p n 1 false false key ch ww hs hp hn (by omega) (by omega) hk'
  rcases hk with ((h | h) | h) | h <;> subst h <;> exact this
theorem sFind_again (s : ByteArray) (p n : Nat) (key ch : Int) (given : Bool) (w : World) (hs : s.size ≤ 1000) (hp : p ≤ s.size) (hn : n ≤ 99) (hk : Nib.isFind key = true) :
    Calls Tryz.prog 183 #[.agg #[.int .u8 key, .int .u8 ch], .agg #[.string s, .int .i64 (p), .int .i64 (n), .bool false, .bool false]] w fun e w' => e = .returned (.tuple #[.agg #[.int .i64 (wayX (Nib.goWay s p key ch (max n 1) given false true)), .int .i64 (wayK (Nib.goWay s p key ch (max n 1) given false true))], .bool (wayZ (Nib.goWay s p key ch (max n 1) given false true))]) ∧ Below w.heap.size w w' := by
  simp only [Nib.isFind, Bool.or_eq_true, beq_iff_eq] at hk
  have hk' : isFnd key := by unfold isFnd; omega
  refine sFindAgain_gen s p n false false key ch w _ (fun ww => ?_)
  have h1 := sGoFrom_any s p n 1 false false key ch ww hs hp hn (by omega) (by omega) hk'
  have h2 := sGoFrom_any s p n 2 false false key ch ww hs hp hn (by omega) (by omega) hk'
  rcases hk with ((h | h) | h) | h <;> subst h
  · exact h1
  · exact h2
  · exact h1
  · exact h2
theorem sFind_again0 (s : ByteArray) (p n : Int) (ch : Int) (w : World) :
    Calls Tryz.prog 183 #[.agg #[.int .u8 0, .int .u8 ch], .agg #[.string s, .int .i64 (p), .int .i64 (n), .bool false, .bool false]] w fun e w' => e = .returned (.tuple #[.agg #[.int .i64 (wayX (((0 : Int), (0 : Int), true))), .int .i64 (wayK (((0 : Int), (0 : Int), true)))], .bool (wayZ (((0 : Int), (0 : Int), true)))]) ∧ Below w.heap.size w w' :=
  sFindAgain_gen s p n false false 0 ch w _ (fun ww => sGoFrom_none s p n _ ch false false ww)
theorem sTurned_any (key ch : Int) (w : World) (hk : key = 0 ∨ Nib.isFind key = true) :
    Calls Tryz.prog 184 #[.agg #[.int .u8 key, .int .u8 ch]] w fun e w' => e = .returned (.agg #[.int .u8 (Nib.flp key), .int .u8 ch]) ∧ Below w.heap.size w w' := by
  simp only [Nib.isFind, Bool.or_eq_true, beq_iff_eq] at hk
  rcases hk with h | ((h | h) | h) | h <;> subst h
  · exact sTurned_0 ch w
  · exact sTurned_102 ch w
  · exact sTurned_116 ch w
  · exact sTurned_70 ch w
  · exact sTurned_84 ch w
end Go.Proofs.YtlendfhehhacpaaGreat
