/- Joined of the texts WaysU, WaysW, WaysX. -/
import Derived.Test.YtlendfhehhacpaaGreatP08
import Derived.Test.YtlendfhehhacpaaGreatP05
import Derived.Test.YtlendfhehhacpaaGreatP32
set_option linter.unusedVariables false
set_option linter.unusedSimpArgs false
set_option maxRecDepth 100000
set_option maxHeartbeats 8000000
namespace Go.Proofs.YtlendfhehhacpaaGreat
open Go.RowKit
theorem sKept_same (s : ByteArray) (p q C D : Nat) (w : World)
    (G1 : Hid (∀ ww, Calls Tryz.prog 195 #[.string s, .int .i64 p] ww fun e w' => e = .returned (.agg #[.int .i64 (C), .int .i64 (D)]) ∧ Below ww.heap.size ww w'))
    (G2 : Hid (∀ ww, Calls Tryz.prog 195 #[.string s, .int .i64 q] ww fun e w' => e = .returned (.agg #[.int .i64 (C), .int .i64 (D)]) ∧ Below ww.heap.size ww w')) :
    Calls Tryz.prog 250 #[.string s, .int .i64 p, .int .i64 q] w fun e w' => e = .returned (.int .i64 q) ∧ Below w.heap.size w w' := by
  have HQ : ∀ ww, (binOp .neq 128 (.agg #[.int .i64 (C), .int .i64 (D)]) (.agg #[.int .i64 (C), .int .i64 (D)])).run Tryz.prog ww = .ok (.bool false) ww := by intro ww; rw [neq_two]; simp
  go_enter Tryz.func250, Tryz.ntmps250
  go_wp2_with fail
  refine (G1.out _).mono ?_
  rintro e w1 ⟨rfl, h1⟩
  obtain ⟨hc1, hf1⟩ := bcell h1
  have hz1 := h1.size
  try simp at hz1
  go_wp2_with fail
  refine wp_region_held_drew (S := fun ww => ww.cell? ⟨w1.heap.size, 0, none⟩ = some (.int .i64 C) ∧ ww.cell? ⟨w1.heap.size, 1, none⟩ = some (.int .i64 D)) (by kernel_rfl) ?_ (fun hHeld => ?_)
  · refine ⟨?_, ?_⟩ <;> go_simp
  refine wpAnyH_take (i := 0) (v := _) rfl (by kernel_rfl) (by kernel_rfl) (by kernel_rfl) (fun _ _ _ h => h) (Or.inl ⟨by rfl, fun w hSw => by (try dsimp only at hSw); go_simp; first | done | with_reducible rfl⟩) (by assumption) ?_
  try simp only [Act.put, List.setIfInBounds_toArray, List.set_cons_zero, List.set_cons_succ]
  refine wpAnyH_take (i := 1) (v := _) rfl (by kernel_rfl) (by kernel_rfl) (by kernel_rfl) (fun _ _ _ h => h) (Or.inl ⟨by rfl, fun w hSw => by (try dsimp only at hSw); go_simp; first | done | with_reducible rfl⟩) (by assumption) ?_
  try simp only [Act.put, List.setIfInBounds_toArray, List.set_cons_zero, List.set_cons_succ]
  refine wpAnyH_take (i := 3) (v := _) rfl (by kernel_rfl) (by kernel_rfl) (by kernel_rfl) (fun _ _ _ h => h) (Or.inl ⟨by rfl, fun w hSw => by (try dsimp only at hSw); go_simp; first | done | with_reducible rfl⟩) (by assumption) ?_
  try simp only [Act.put, List.setIfInBounds_toArray, List.set_cons_zero, List.set_cons_succ]
  refine wpAnyH_ready (rs := [2]) (by kernel_rfl) (by simp) (AllReadyH.cons rfl (fun K hK => ?_) AllReadyH.nil)
  rw [if_pos (by rfl)]
  go_wp2_with fail
  refine (G2.out _).mono ?_
  rintro r2 w2 ⟨rfl, h2⟩
  obtain ⟨hc2, hf2⟩ := bcell h2
  have hz2 := h2.size
  (try simp at hz2)
  go_wp2_with fail
  refine hK.out _ _ ?_ (fun hHeld => ?_)
  · refine ⟨(hc2 _ _ (by simp)).trans hHeld.1, (hc2 _ _ (by simp)).trans hHeld.2⟩
  clear hK K
  try simp only [Act.put, List.setIfInBounds_toArray, List.set_cons_zero, List.set_cons_succ]
  refine wpAnyH_take (i := 4) (v := _) rfl (by kernel_rfl) (by kernel_rfl) (by kernel_rfl) (fun _ _ _ h => h) (Or.inl ⟨by rfl, fun w hSw => by (try dsimp only at hSw); go_simp; first | done | with_reducible rfl⟩) (by assumption) ?_
  try simp only [Act.put, List.setIfInBounds_toArray, List.set_cons_zero, List.set_cons_succ]
  refine wpAnyH_take (i := 5) (v := _) rfl (by kernel_rfl) (by kernel_rfl) (by kernel_rfl) (fun _ _ _ h => h) (Or.inl ⟨by rfl, fun w hSw => by (try dsimp only at hSw); go_simp; first | done | with_reducible rfl⟩) (by assumption) ?_
  try simp only [Act.put, List.setIfInBounds_toArray, List.set_cons_zero, List.set_cons_succ]
  refine wpAnyH_take (i := 6) (v := _) rfl (by kernel_rfl) (by kernel_rfl) (by kernel_rfl) (fun _ _ _ h => h) (Or.inr ⟨by rfl, rfl⟩) (by assumption) ?_
  try simp only [Act.put, List.setIfInBounds_toArray, List.set_cons_zero, List.set_cons_succ]
  refine wpAnyH_take (i := 7) (v := _) rfl (by kernel_rfl) (by kernel_rfl) (by kernel_rfl) (fun _ _ _ h => h) (Or.inr ⟨by rfl, rfl⟩) (by assumption) ?_
  try simp only [Act.put, List.setIfInBounds_toArray, List.set_cons_zero, List.set_cons_succ]
  refine wpAnyH_take (i := 8) (v := _) rfl (by kernel_rfl) (by kernel_rfl) (by kernel_rfl) (fun _ _ _ h => h) (Or.inr ⟨by rfl, rfl⟩) (by assumption) ?_
  try simp only [Act.put, List.setIfInBounds_toArray, List.set_cons_zero, List.set_cons_succ]
  refine wpAnyH_take (i := 9) (v := _) rfl (by kernel_rfl) (by kernel_rfl) (by kernel_rfl) (fun _ _ _ h => h) (Or.inr ⟨by rfl, rfl⟩) (by assumption) ?_
  try simp only [Act.put, List.setIfInBounds_toArray, List.set_cons_zero, List.set_cons_succ]
  refine wpAnyH_take (i := 10) (v := _) rfl (by kernel_rfl) (by kernel_rfl) (by kernel_rfl) (fun _ _ _ h => h) (Or.inl ⟨by rfl, fun w hSw => by (try dsimp only at hSw); go_simp; first | done | with_reducible rfl⟩) (by assumption) ?_
  try simp only [Act.put, List.setIfInBounds_toArray, List.set_cons_zero, List.set_cons_succ]
  refine wpAnyH_done (by kernel_rfl) ?_ _
  go_wp2
  refine bodyPost_ret (v := .int .i64 q) (by simp [results, Tryz.results250, go_sem]) rfl ⟨rfl, ?_⟩
  repeat (with_reducible first | exact Below.refl _ _ | refine b_s ?_ _ | refine b_a ?_ _ | refine Below.drew ?_ | refine below_drewN ?_ _ | refine b_t ?_ h2 | refine b_t ?_ h1)
theorem sKept_other (s : ByteArray) (p q A B C D : Nat) (w : World) (hx : ¬ (C = A ∧ D = B))
    (G1 : Hid (∀ ww, Calls Tryz.prog 195 #[.string s, .int .i64 p] ww fun e w' => e = .returned (.agg #[.int .i64 (A), .int .i64 (B)]) ∧ Below ww.heap.size ww w'))
    (G2 : Hid (∀ ww, Calls Tryz.prog 195 #[.string s, .int .i64 q] ww fun e w' => e = .returned (.agg #[.int .i64 (C), .int .i64 (D)]) ∧ Below ww.heap.size ww w')) :
    Calls Tryz.prog 250 #[.string s, .int .i64 p, .int .i64 q] w fun e w' => e = .returned (.int .i64 ((if p = B then q else B : Nat) : Int)) ∧ Below w.heap.size w w' := by
  have HQ : ∀ ww, (binOp .neq 128 (.agg #[.int .i64 (C), .int .i64 (D)]) (.agg #[.int .i64 (A), .int .i64 (B)])).run Tryz.prog ww = .ok (.bool true) ww := by
    intro ww; rw [neq_two]; congr 2; simp only [Bool.not_eq_true', Bool.and_eq_false_imp, beq_iff_eq, beq_eq_false_iff_ne]; omega
  clear hx
  by_cases hpB : p = B
  · rw [if_pos hpB]
    subst hpB
    go_enter Tryz.func250, Tryz.ntmps250
    go_wp2_with fail
    refine (G1.out _).mono ?_
    rintro e w1 ⟨rfl, h1⟩
    obtain ⟨hc1, hf1⟩ := bcell h1
    have hz1 := h1.size
    try simp at hz1
    go_wp2_with fail
    go_wp2_with fail
    go_region_held3 (fun ww => ww.cell? ⟨w1.heap.size, 0, none⟩ = some (.int .i64 A) ∧ ww.cell? ⟨w1.heap.size, 1, none⟩ = some (.int .i64 p)) ((refine ⟨?_, ?_⟩ <;> go_simp)) ((go_at_call 195; refine (G2.out _).mono ?_; rintro r2 w2 ⟨rfl, h2⟩; obtain ⟨hc2, hf2⟩ := bcell h2; have hz2 := h2.size; (try simp at hz2); (try have hl2_0 : w1.heap.size < w2.heap.size := (by omega)); (try have hk2_0 : w1.heap.size < w2.heap.size + 1 := (by omega))))
    go_wp2
    refine bodyPost_ret (v := .int .i64 q) (by simp [results, Tryz.results250, go_sem]) rfl ⟨rfl, ?_⟩
    repeat (with_reducible first | exact Below.refl _ _ | refine b_s ?_ _ | refine b_a ?_ _ | refine Below.drew ?_ | refine below_drewN ?_ _ | refine b_t ?_ h2 | refine b_t ?_ h1)
  · rw [if_neg hpB]
    have hb : ((p : Int) = B) = False := by simp; omega
    clear hpB
    go_enter Tryz.func250, Tryz.ntmps250
    go_wp2_with fail
    refine (G1.out _).mono ?_
    rintro e w1 ⟨rfl, h1⟩
    obtain ⟨hc1, hf1⟩ := bcell h1
    have hz1 := h1.size
    try simp at hz1
    go_wp2_with fail
    go_wp2_with fail
    go_region_held3 (fun ww => ww.cell? ⟨w1.heap.size, 0, none⟩ = some (.int .i64 A) ∧ ww.cell? ⟨w1.heap.size, 1, none⟩ = some (.int .i64 B)) ((refine ⟨?_, ?_⟩ <;> go_simp)) ((go_at_call 195; refine (G2.out _).mono ?_; rintro r2 w2 ⟨rfl, h2⟩; obtain ⟨hc2, hf2⟩ := bcell h2; have hz2 := h2.size; (try simp at hz2); (try have hl2_0 : w1.heap.size < w2.heap.size := (by omega)); (try have hk2_0 : w1.heap.size < w2.heap.size + 1 := (by omega))))
    go_wp2
    · refine bodyPost_ret (v := .int .i64 B) (by simp [results, Tryz.results250, go_sem]) rfl ⟨rfl, ?_⟩
      repeat (with_reducible first | exact Below.refl _ _ | refine b_s ?_ _ | refine b_a ?_ _ | refine Below.drew ?_ | refine below_drewN ?_ _ | refine b_t ?_ h2 | refine b_t ?_ h1)
    · rename_i hh; exact absurd hh (by simp [hb])
theorem sKept_any (s : ByteArray) (p q : Nat) (w : World) (hs : s.size ≤ 1000) (hp : p ≤ s.size) (hq : q ≤ s.size) :
    Calls Tryz.prog 250 #[.string s, .int .i64 p, .int .i64 q] w fun e w' => e = .returned (.int .i64 ((if ¬ (Nib.beg s q = Nib.beg s p ∧ Nib.fin s q = Nib.fin s p) ∧ Nib.fin s p ≠ p then Nib.fin s p else q : Nat) : Int)) ∧ Below w.heap.size w w' := by
  have G1 : Hid (∀ ww, Calls Tryz.prog 195 #[.string s, .int .i64 p] ww fun e w' => e = .returned (.agg #[.int .i64 (Nib.beg s p), .int .i64 (Nib.fin s p)]) ∧ Below ww.heap.size ww w') := fun ww => tLine_any s p p ww hs rfl hp
  have G2 : Hid (∀ ww, Calls Tryz.prog 195 #[.string s, .int .i64 q] ww fun e w' => e = .returned (.agg #[.int .i64 (Nib.beg s q), .int .i64 (Nib.fin s q)]) ∧ Below ww.heap.size ww w') := fun ww => tLine_any s q q ww hs rfl hq
  by_cases hx : Nib.beg s q = Nib.beg s p ∧ Nib.fin s q = Nib.fin s p
  · rw [if_neg (by simp [hx])]
    rw [hx.1, hx.2] at G2
    exact sKept_same s p q _ _ w G1 G2
  · have := sKept_other s p q _ _ _ _ w hx G1 G2
    by_cases hb : Nib.fin s p = p
    · rw [if_neg (by simp [hb])]; rw [if_pos hb.symm] at this; exact this
    · rw [if_pos ⟨hx, hb⟩]; rw [if_neg (fun h => hb h.symm)] at this; exact this
theorem same_line {s : ByteArray} {p q : Nat} (hp : p ≤ s.size) (hq : q ≤ s.size) : (Nib.beg s q = Nib.beg s p ∧ Nib.fin s q = Nib.fin s p) ↔ Nib.lin s q = Nib.lin s p := by
  constructor
  · intro h
    rw [← Nib.lin_beg s q, h.1, Nib.lin_beg]
  · intro h
    rw [Nib.beg_eq hq, Nib.fin_eq hq, Nib.beg_eq hp, Nib.fin_eq hp, h]
    exact ⟨rfl, rfl⟩
theorem sToWord_verb (s : ByteArray) (p n : Nat) (g : Bool) (w : World) (hs : s.size ≤ 1000) (hp : p ≤ s.size) (hn : n ≤ 99) :
    Calls Tryz.prog 208 #[.agg #[.string s, .int .i64 (p), .int .i64 (n), .bool true, .bool false], .bool g] w fun e w' => e = .returned (.tuple #[.agg #[.int .i64 (wayX (((Nib.wordQ s p (max n 1) g true : Int), 0, (Nib.wordQ s p (max n 1) g true : Int) == (p : Int)))), .int .i64 (wayK (((Nib.wordQ s p (max n 1) g true : Int), 0, (Nib.wordQ s p (max n 1) g true : Int) == (p : Int))))], .bool (wayZ (((Nib.wordQ s p (max n 1) g true : Int), 0, (Nib.wordQ s p (max n 1) g true : Int) == (p : Int))))]) ∧ Below w.heap.size w w' := by
  have HP : Hid (∀ (q : Nat), q ≤ s.size → ∀ ww, Calls Tryz.prog 249 #[.string s, .int .i64 q, .bool g] ww fun e w' => e = .returned (.int .i64 (Nib.wstep s g q)) ∧ Below ww.heap.size ww w') := fun q hq ww => sWordStep_any s q g ww hs hq
  have HN : Hid (∀ ww, Calls Tryz.prog 241 #[.agg #[.string s, .int .i64 (p), .int .i64 (n), .bool true, .bool false]] ww fun e w' => e = .returned (.int .i64 ((max n 1 : Nat) : Int)) ∧ Below ww.heap.size ww w') := by
    intro ww
    have := sNumber_any s p n true false ww
    rw [show max (n : Int) 1 = ((max n 1 : Nat) : Int) by omega] at this
    exact this
  have hN1 : 1 ≤ max n 1 := by omega
  have hN2 : max n 1 ≤ 99 := by omega
  generalize max n 1 = N at *
  have HU : Hid (∀ ww, Calls Tryz.prog 240 #[.agg #[.string s, .int .i64 (p), .int .i64 (n), .bool true, .bool false], .int .i64 (Nib.wordQ s p N g true : Nat), .int .i64 0] ww fun e w' => e = .returned (.tuple #[.agg #[.int .i64 (wayX (((Nib.wordQ s p N g true : Int), 0, (Nib.wordQ s p N g true : Int) == (p : Int)))), .int .i64 (wayK (((Nib.wordQ s p N g true : Int), 0, (Nib.wordQ s p N g true : Int) == (p : Int))))], .bool (wayZ (((Nib.wordQ s p N g true : Int), 0, (Nib.wordQ s p N g true : Int) == (p : Int))))]) ∧ Below ww.heap.size ww w') := fun ww => sUnless_any s p n _ 0 true false ww
  generalize (((Nib.wordQ s p N g true : Nat) : Int), (0 : Int), (((Nib.wordQ s p N g true : Nat) : Int) == (p : Int))) = R at *
  have HK : Hid (∀ ww, Calls Tryz.prog 250 #[.string s, .int .i64 (Nib.itr (Nib.wstep s g) (N - 1) p : Nat), .int .i64 (Nib.itr (Nib.wstep s g) N p : Nat)] ww fun e w' => e = .returned (.int .i64 (Nib.wordQ s p N g true : Nat)) ∧ Below ww.heap.size ww w') := by
    intro ww
    have h1 := Nib.itr_w_le (g := g) hp (N - 1)
    have h2 := Nib.itr_w_le (g := g) hp N
    have := sKept_any s _ _ ww hs h1 h2
    rw [show Nib.wordQ s p N g true = if ¬ (Nib.beg s (Nib.itr (Nib.wstep s g) N p) = Nib.beg s (Nib.itr (Nib.wstep s g) (N - 1) p) ∧ Nib.fin s (Nib.itr (Nib.wstep s g) N p) = Nib.fin s (Nib.itr (Nib.wstep s g) (N - 1) p)) ∧ Nib.fin s (Nib.itr (Nib.wstep s g) (N - 1) p) ≠ Nib.itr (Nib.wstep s g) (N - 1) p then Nib.fin s (Nib.itr (Nib.wstep s g) (N - 1) p) else Nib.itr (Nib.wstep s g) N p by
      unfold Nib.wordQ; rw [if_pos rfl]; simp only [same_line h1 h2, ne_eq]]
    exact this
  generalize Nib.wordQ s p N g true = Z at *
  go_enter Tryz.func208, Tryz.ntmps208
  have F : Five ((w.alloc (.cells #[.string s, .int .i64 (p), .int .i64 (n), .bool true, .bool false] 206)).alloc (.cells #[.int .i64 0, .int .i64 0] 202)) w.heap.size s p n true false := Five.alloc (Five.new _ _ _ _ _ _ _) _
  have RB : Two ((w.alloc (.cells #[.string s, .int .i64 (p), .int .i64 (n), .bool true, .bool false] 206)).alloc (.cells #[.int .i64 0, .int .i64 0] 202)) (w.heap.size + 1) 0 0 := by have := Two.new (w.alloc (.cells #[.string s, .int .i64 (p), .int .i64 (n), .bool true, .bool false] 206)) 0 0 202; simpa using this
  go_wp2_with fail
  go_region
  go_wp2_with fail
  refine (HN.out _).mono ?_
  rintro r1 w1 ⟨rfl, h1⟩
  obtain ⟨hc1, hf1⟩ := bcell h1
  have hz1 := h1.size
  (try simp at hz1)
  have F1 : Five w1 (w.heap.size) s p n true false := (by repeat (with_reducible first | exact F | refine f_o ?_ _ | refine Five.alloc ?_ _ | refine Five.drewN ?_ _ | refine Five.drew ?_ | refine Five.below ?_ h1))
  have F1_0 := F1.c0
  have F1_1 := F1.c1
  have F1_2 := F1.c2
  have F1_3 := F1.c3
  have F1_4 := F1.c4
  have F1_z := F1.fz
  have F1_l := F1.lt
  have RB1 : Two w1 (w.heap.size + 1) (0) (0) := (by repeat (with_reducible first | exact RB | refine t_o ?_ _ | refine Two.alloc ?_ _ | refine Two.drewN ?_ _ | refine Two.drew ?_ | refine Two.below ?_ h1))
  have RB1_0 := RB1.c0
  have RB1_1 := RB1.c1
  have RB1_z := RB1.fz
  have RB1_l := RB1.lt
  go_wp2
  go_loopw [6, 7, 27] (fun f q i wr => ∃ k : Nat, k ≤ N ∧ f = .int .i64 (Nib.itr (Nib.wstep s g) (k - 1) p : Nat) ∧ q = .int .i64 (Nib.itr (Nib.wstep s g) k p : Nat) ∧ i = .int .i64 k ∧ Five wr w.heap.size s p n true false ∧ Two wr (w.heap.size + 1) 0 0 ∧ Below w.heap.size w wr) (fun _ _ i _ => N - (intOf i).toNat)
  case atStart =>
    refine ⟨0, by omega, rfl, rfl, rfl, F1, RB1, ?_⟩
    repeat (with_reducible first | exact Below.refl _ _ | refine b_s ?_ _ | refine b_a ?_ _ | refine Below.drew ?_ | refine below_drewN ?_ _ | refine b_t ?_ h1)
  case round =>
    clear F RB h1 hc1 hf1 F1_0 F1_1 F1_2 F1_3 F1_4 F1_z F1_l RB1_0 RB1_1 RB1_z RB1_l
    obtain ⟨k, hk, rfl, rfl, rfl, F, RB, hB⟩ := hrel
    have hq := Nib.itr_w_le (g := g) hp k
    have f0 := F.c0; have f1 := F.c1; have f2 := F.c2; have f3 := F.c3; have f4 := F.c4; have fz := F.fz; have fl := F.lt
    have r0 := (RB).c0
    have r1 := (RB).c1
    have rz := (RB).fz
    have rl := (RB).lt
    have hzz := hB.size
    by_cases hlt : k < N
    · have HS : Hid (∀ ww, Calls Tryz.prog 249 #[.string s, .int .i64 (Nib.itr (Nib.wstep s g) k p : Nat), .bool g] ww fun e w' => e = .returned (.int .i64 (Nib.itr (Nib.wstep s g) (k + 1) p : Nat)) ∧ Below ww.heap.size ww w') := fun ww => HP.out _ hq ww
      generalize hA : Nib.itr (Nib.wstep s g) (k + 1) p = A at *
      go_wp2_with fail
      refine (HS.out _).mono ?_
      rintro r2 w2 ⟨rfl, h2⟩
      obtain ⟨hc2, hf2⟩ := bcell h2
      have hz2 := h2.size
      (try simp at hz2)
      have F2 : Five w2 (w.heap.size) s p n true false := (by repeat (with_reducible first | exact F | refine f_o ?_ _ | refine Five.alloc ?_ _ | refine Five.drewN ?_ _ | refine Five.drew ?_ | refine Five.below ?_ h2))
      have F2_0 := F2.c0
      have F2_1 := F2.c1
      have F2_2 := F2.c2
      have F2_3 := F2.c3
      have F2_4 := F2.c4
      have F2_z := F2.fz
      have F2_l := F2.lt
      have RB2 : Two w2 (w.heap.size + 1) (0) (0) := (by repeat (with_reducible first | exact RB | refine t_o ?_ _ | refine Two.alloc ?_ _ | refine Two.drewN ?_ _ | refine Two.drew ?_ | refine Two.below ?_ h2))
      have RB2_0 := RB2.c0
      have RB2_1 := RB2.c1
      have RB2_z := RB2.fz
      have RB2_l := RB2.lt
      go_wp2
      go_round
      case rel =>
        refine ⟨k + 1, by omega, rfl, by rw [hA], by go_num, F2, RB2, ?_⟩
        repeat (with_reducible first | exact Below.refl _ _ | refine b_s ?_ _ | refine b_a ?_ _ | refine Below.drew ?_ | refine below_drewN ?_ _ | refine b_t ?_ h2 | refine b_t ?_ hB)
      case measure => simp [intOf] <;> omega
    · have ek : k = N := by omega
      subst ek
      generalize Nib.itr (Nib.wstep s g) (k - 1) p = E at *
      generalize Nib.itr (Nib.wstep s g) k p = A at *
      have s0 := f0; have s1 := f1; have s2 := f2; have s3 := f3; have s4 := f4
      clear HP HN F f0 f1 f2 f3 f4
      go_wp2_with fail
      go_region_held3 (fun ww => ww.cell? ⟨w.heap.size, 0, none⟩ = some (.string s) ∧ ww.cell? ⟨w.heap.size, 1, none⟩ = some (.int .i64 p) ∧ ww.cell? ⟨w.heap.size, 2, none⟩ = some (.int .i64 n) ∧ ww.cell? ⟨w.heap.size, 3, none⟩ = some (.bool true) ∧ ww.cell? ⟨w.heap.size, 4, none⟩ = some (.bool false)) ((refine ⟨?_, ?_, ?_, ?_, ?_⟩ <;> (first | ((repeat (first | with_reducible assumption | (with_reducible refine memLater ((Below.refl _ _).alloc (Nat.le_refl _) _) ?_) | (with_reducible refine memLater ((Below.refl _ _).drew) ?_) | (with_reducible refine memLater h4 ?_) | (with_reducible refine memLater h5 ?_) | (with_reducible refine (memSet (by omega)).trans ?_))); done) | (go_simp; done)))) (first | (go_at_call 250; refine (HK.out _).mono ?_; rintro r4 w4 ⟨rfl, h4⟩; obtain ⟨hc4, hf4⟩ := bcell h4; have hz4 := h4.size; (try simp at hz4); (try have hl4_0 : w.heap.size < w4.heap.size := (by omega)); (try have hk4_0 : w.heap.size < w4.heap.size + 1 := (by omega)); have RB4 : Two w4 (w.heap.size + 1) (0) (0) := (by repeat (with_reducible first | exact RB | refine t_o ?_ _ | refine Two.alloc ?_ _ | refine Two.drewN ?_ _ | refine Two.drew ?_ | refine Two.below ?_ h4)); have RB4_0 := RB4.c0; have RB4_1 := RB4.c1; have RB4_z := RB4.fz; have RB4_l := RB4.lt) | (go_at_call 240; refine (HU.out _).mono ?_; rintro r5 w5 ⟨rfl, h5⟩; obtain ⟨hc5, hf5⟩ := bcell h5; have hz5 := h5.size; (try simp at hz5); (try have hl5_0 : w.heap.size < w5.heap.size := (by omega)); (try have hk5_0 : w.heap.size < w5.heap.size + 1 := (by omega)); have RB5 : Two w5 (w.heap.size + 1) (0) (0) := (by repeat (with_reducible first | exact RB | refine t_o ?_ _ | refine Two.alloc ?_ _ | refine Two.drewN ?_ _ | refine Two.drew ?_ | refine Two.below ?_ h4 | refine Two.below ?_ h5)); have RB5_0 := RB5.c0; have RB5_1 := RB5.c1; have RB5_z := RB5.fz; have RB5_l := RB5.lt))
      clear hc4 hf4 hc5 hf5
      go_wp2
      all_goals
        first
          | (refine bodyPost_ret (v := .tuple #[.agg #[.int .i64 (wayX (R)), .int .i64 (wayK (R))], .bool (wayZ (R))]) (by simp [results, Tryz.results208, go_sem, RB5_0, RB5_1, RB5_z, RB5_l]) rfl ⟨rfl, ?_⟩ <;> repeat (with_reducible first | exact Below.refl _ _ | refine b_s ?_ _ | refine b_a ?_ _ | refine Below.drew ?_ | refine below_drewN ?_ _ | refine b_t ?_ h5 | refine b_t ?_ h4 | refine b_t ?_ hB))
theorem sGo_wayV (s : ByteArray) (p n : Nat) (key ch : Int) (b : Bool) (w : World) (hs : s.size ≤ 1000) (hp : p ≤ s.size) (hn : n ≤ 99) (hk : isPlainWay key = true)
    (HA : Hid (∀ ww, Calls Tryz.prog 254 #[.string (s.extract p (Nib.fin s p)), .string ⟨#[40, 41, 91, 93, 123, 125]⟩] ww fun e w' => e = .returned (.int .i64 (brkAt s p)) ∧ Below ww.heap.size ww w')) :
    Calls Tryz.prog 169 #[.int .u8 key, .agg #[.string s, .int .i64 (p), .int .i64 (n), .bool true, .bool false]] w fun e w' => e = .returned (.tuple #[.agg #[.int .i64 (wayX (Nib.goWay s p key ch (max n 1) (decide (0 < n)) true b)), .int .i64 (wayK (Nib.goWay s p key ch (max n 1) (decide (0 < n)) true b))], .bool (wayZ (Nib.goWay s p key ch (max n 1) (decide (0 < n)) true b))]) ∧ Below w.heap.size w w' := by
  simp only [isPlainWay, Bool.or_eq_true, beq_iff_eq] at hk
  rcases hk with ((((((((((((((((h | h) | h) | h) | h) | h) | h) | h) | h) | h) | h) | h) | h) | h) | h) | h) | h) | h
  all_goals subst h
  · exact sGo_104 s p n true false w _ (fun ww => sInLine_h s p n true false ww hs hp hn)
  · exact sGo_108 s p n true false w _ (fun ww => sInLine_l s p n true false ww hs hp hn (by simp only [Nib.mostL, if_true]; exact Nib.fin_ge s p))
  · exact sGo_48 s p n true false w _ (fun ww => sInLine_0 s p n true false ww hs hp)
  · exact sGo_94 s p n true false w _ (fun ww => sInLine_hat s p n true false ww hs hp)
  · exact sGo_36 s p n true false w _ (fun ww => sInLine_eol s p n true false ww hs hp hn)
  · exact sGo_106 s p n true false w _ (fun ww => sToLine_j s p n true false (decide (0 < n)) ww hs hp hn)
  · exact sGo_107 s p n true false w _ (fun ww => sToLine_k s p n true false (decide (0 < n)) ww hs hp hn)
  · exact sGo_71 s p n true false w _ (fun ww => sToNumber_any s p n true false 71 ww hs hp hn (Or.inl rfl))
  · exact sGo_103 s p n true false w _ (fun ww => sToNumber_any s p n true false 103 ww hs hp hn (Or.inr rfl))
  · exact sGo_119 s p n true false w _ (fun ww => sToWord_verb s p n false ww hs hp hn)
  · exact sGo_87 s p n true false w _ (fun ww => sToWord_verb s p n true ww hs hp hn)
  · exact sGo_98 s p n true false w _ (fun ww => sToAhead_any s p n true false false ww hs hp hn)
  · exact sGo_66 s p n true false w _ (fun ww => sToAhead_any s p n true false true ww hs hp hn)
  · exact sGo_101 s p n true false w _ (fun ww => sToWordEnd_any s p n true false false ww hs hp hn)
  · exact sGo_69 s p n true false w _ (fun ww => sToWordEnd_any s p n true false true ww hs hp hn)
  · exact sGo_125 s p n true false w _ (fun ww => sToPar_any s p n true false true 1 ww hs hp hn rfl)
  · exact sGo_123 s p n true false w _ (fun ww => sToPar_any s p n true false false (-1) ww hs hp hn rfl)
  · exact sGo_37 s p n true false w _ (fun ww => sToPartner_gen s p n true false ww hs hp HA)
theorem sFind_goV (s : ByteArray) (p n : Nat) (key ch : Int) (given : Bool) (w : World) (hs : s.size ≤ 1000) (hp : p ≤ s.size) (hn : n ≤ 99) (hk : Nib.isFind key = true) :
    Calls Tryz.prog 167 #[.agg #[.int .u8 key, .int .u8 ch], .agg #[.string s, .int .i64 (p), .int .i64 (n), .bool true, .bool false]] w fun e w' => e = .returned (.tuple #[.agg #[.int .i64 (wayX (Nib.goWay s p key ch (max n 1) given true false)), .int .i64 (wayK (Nib.goWay s p key ch (max n 1) given true false))], .bool (wayZ (Nib.goWay s p key ch (max n 1) given true false))]) ∧ Below w.heap.size w w' := by
  simp only [Nib.isFind, Bool.or_eq_true, beq_iff_eq] at hk
  have hk' : isFnd key := by unfold isFnd; omega
  refine sFindGo_gen s p n true false key ch w _ (fun ww => ?_)
  have := sGoFrom_any s p n 1 true false key ch ww hs hp hn (by omega) (by omega) hk'
  rcases hk with ((h | h) | h) | h <;> subst h <;> exact this
theorem sFind_againV (s : ByteArray) (p n : Nat) (key ch : Int) (given : Bool) (w : World) (hs : s.size ≤ 1000) (hp : p ≤ s.size) (hn : n ≤ 99) (hk : Nib.isFind key = true) :
    Calls Tryz.prog 183 #[.agg #[.int .u8 key, .int .u8 ch], .agg #[.string s, .int .i64 (p), .int .i64 (n), .bool true, .bool false]] w fun e w' => e = .returned (.tuple #[.agg #[.int .i64 (wayX (Nib.goWay s p key ch (max n 1) given true true)), .int .i64 (wayK (Nib.goWay s p key ch (max n 1) given true true))], .bool (wayZ (Nib.goWay s p key ch (max n 1) given true true))]) ∧ Below w.heap.size w w' := by
  simp only [Nib.isFind, Bool.or_eq_true, beq_iff_eq] at hk
  have hk' : isFnd key := by unfold isFnd; omega
  refine sFindAgain_gen s p n true false key ch w _ (fun ww => ?_)
  have h1 := sGoFrom_any s p n 1 true false key ch ww hs hp hn (by omega) (by omega) hk'
  have h2 := sGoFrom_any s p n 2 true false key ch ww hs hp hn (by omega) (by omega) hk'
  rcases hk with ((h | h) | h) | h <;> subst h
  · exact h1
  · exact h2
  · exact h1
  · exact h2
theorem sFind_again0V (s : ByteArray) (p n : Int) (ch : Int) (w : World) :
    Calls Tryz.prog 183 #[.agg #[.int .u8 0, .int .u8 ch], .agg #[.string s, .int .i64 (p), .int .i64 (n), .bool true, .bool false]] w fun e w' => e = .returned (.tuple #[.agg #[.int .i64 (wayX (((0 : Int), (0 : Int), true))), .int .i64 (wayK (((0 : Int), (0 : Int), true)))], .bool (wayZ (((0 : Int), (0 : Int), true)))]) ∧ Below w.heap.size w w' :=
  sFindAgain_gen s p n true false 0 ch w _ (fun ww => sGoFrom_none s p n _ ch true false ww)
end Go.Proofs.YtlendfhehhacpaaGreat
