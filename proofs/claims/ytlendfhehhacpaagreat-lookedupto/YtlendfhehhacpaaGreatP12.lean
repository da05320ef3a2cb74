/- Joined of the texts WaysC. -/
import Derived.Test.YtlendfhehhacpaaGreatP11
import Derived.Test.YtlendfhehhacpaaGreatP02
import Derived.Test.YtlendfhehhacpaaGreatP04
set_option linter.unusedVariables false
set_option linter.unusedSimpArgs false
set_option maxRecDepth 100000
set_option maxHeartbeats 8000000
namespace Go.Proofs.YtlendfhehhacpaaGreat
open Go.RowKit
theorem sInLine_0 (s : ByteArray) (p n : Nat) (v c : Bool) (w : World) (hs : s.size ≤ 1000) (hp : p ≤ s.size) :
    Calls Tryz.prog 205 #[.agg #[.string s, .int .i64 (p), .int .i64 (n), .bool v, .bool c], .int .u8 48] w fun e w' => e = .returned (.tuple #[.agg #[.int .i64 (wayX (((Nib.beg s p : Int), 0, false))), .int .i64 (wayK (((Nib.beg s p : Int), 0, false)))], .bool (wayZ (((Nib.beg s p : Int), 0, false)))]) ∧ Below w.heap.size w w' := by
  have HL : Hid (∀ ww, Calls Tryz.prog 239 #[.agg #[.string s, .int .i64 (p), .int .i64 (n), .bool v, .bool c]] ww fun e w' => e = .returned (.agg #[.int .i64 (Nib.beg s p), .int .i64 (Nib.fin s p)]) ∧ Below ww.heap.size ww w') := fun ww => sLine_any s p n v c p ww hs rfl hp
  rw [wayX_f, wayK_f, wayZ_f]
  generalize Nib.beg s p = B at *
  generalize Nib.fin s p = F at *
  go_enter Tryz.func205, Tryz.ntmps205
  go_wp2_with fail
  refine (HL.out _).mono ?_
  rintro e w1 ⟨rfl, h1⟩
  obtain ⟨hc1, hf1⟩ := bcell h1
  have hz1 := h1.size
  try simp at hz1
  have hb1_0 := fun o => hc1 (w.heap.size) o (by first | omega | (simp <;> omega))
  have fb1_0 := fun o => hf1 (w.heap.size) o (by first | omega | (simp <;> omega))
  have hg1_0 : w.heap.size < w1.heap.size := (by omega)
  have hh1_0 : w.heap.size < w1.heap.size + 1 := (by omega)
  have hb1_1 := fun o => hc1 (w.heap.size + 1) o (by first | omega | (simp <;> omega))
  have fb1_1 := fun o => hf1 (w.heap.size + 1) o (by first | omega | (simp <;> omega))
  have hg1_1 : w.heap.size + 1 < w1.heap.size := (by omega)
  have hh1_1 : w.heap.size + 1 < w1.heap.size + 1 := (by omega)
  go_wp2
  all_goals
    first
      | (refine bodyPost_ret (v := .tuple #[.agg #[.int .i64 B, .int .i64 0], .bool true]) (by simp [results, Tryz.results205, go_sem, hb1_1, hg1_1]) rfl ⟨rfl, ?_⟩ <;> repeat (with_reducible first | exact Below.refl _ _ | refine b_s ?_ _ | refine b_a ?_ _ | refine Below.drew ?_ | refine below_drewN ?_ _ | refine b_t ?_ h1))
theorem sInLine_hat (s : ByteArray) (p n : Nat) (v c : Bool) (w : World) (hs : s.size ≤ 1000) (hp : p ≤ s.size) :
    Calls Tryz.prog 205 #[.agg #[.string s, .int .i64 (p), .int .i64 (n), .bool v, .bool c], .int .u8 94] w fun e w' => e = .returned (.tuple #[.agg #[.int .i64 (wayX (((Nib.frs s p : Int), 0, false))), .int .i64 (wayK (((Nib.frs s p : Int), 0, false)))], .bool (wayZ (((Nib.frs s p : Int), 0, false)))]) ∧ Below w.heap.size w w' := by
  have HL : Hid (∀ ww, Calls Tryz.prog 239 #[.agg #[.string s, .int .i64 (p), .int .i64 (n), .bool v, .bool c]] ww fun e w' => e = .returned (.agg #[.int .i64 (Nib.beg s p), .int .i64 (Nib.fin s p)]) ∧ Below ww.heap.size ww w') := fun ww => sLine_any s p n v c p ww hs rfl hp
  have HF : Hid (∀ ww, Calls Tryz.prog 243 #[.string s, .agg #[.int .i64 (Nib.beg s p), .int .i64 (Nib.fin s p)]] ww fun e w' => e = .returned (.int .i64 (Nib.frs s p)) ∧ Below ww.heap.size ww w') := fun ww => tFirst_any s _ _ p ww hs hp rfl rfl
  rw [wayX_f, wayK_f, wayZ_f]
  generalize Nib.frs s p = R at *
  generalize Nib.beg s p = B at *
  generalize Nib.fin s p = F at *
  go_enter Tryz.func205, Tryz.ntmps205
  go_wp2_with fail
  refine (HL.out _).mono ?_
  rintro e w1 ⟨rfl, h1⟩
  obtain ⟨hc1, hf1⟩ := bcell h1
  have hz1 := h1.size
  try simp at hz1
  have hb1_0 := fun o => hc1 (w.heap.size) o (by first | omega | (simp <;> omega))
  have fb1_0 := fun o => hf1 (w.heap.size) o (by first | omega | (simp <;> omega))
  have hg1_0 : w.heap.size < w1.heap.size := (by omega)
  have hh1_0 : w.heap.size < w1.heap.size + 1 := (by omega)
  have hb1_1 := fun o => hc1 (w.heap.size + 1) o (by first | omega | (simp <;> omega))
  have fb1_1 := fun o => hf1 (w.heap.size + 1) o (by first | omega | (simp <;> omega))
  have hg1_1 : w.heap.size + 1 < w1.heap.size := (by omega)
  have hh1_1 : w.heap.size + 1 < w1.heap.size + 1 := (by omega)
  go_wp2_with fail
  refine (HF.out _).mono ?_
  rintro e w2 ⟨rfl, h2⟩
  obtain ⟨hc2, hf2⟩ := bcell h2
  have hz2 := h2.size
  try simp at hz2
  have hb2_0 := fun o => hc2 (w.heap.size) o (by first | omega | (simp <;> omega))
  have fb2_0 := fun o => hf2 (w.heap.size) o (by first | omega | (simp <;> omega))
  have hg2_0 : w.heap.size < w2.heap.size := (by omega)
  have hh2_0 : w.heap.size < w2.heap.size + 1 := (by omega)
  have hb2_1 := fun o => hc2 (w.heap.size + 1) o (by first | omega | (simp <;> omega))
  have fb2_1 := fun o => hf2 (w.heap.size + 1) o (by first | omega | (simp <;> omega))
  have hg2_1 : w.heap.size + 1 < w2.heap.size := (by omega)
  have hh2_1 : w.heap.size + 1 < w2.heap.size + 1 := (by omega)
  go_wp2
  all_goals
    first
      | (refine bodyPost_ret (v := .tuple #[.agg #[.int .i64 R, .int .i64 0], .bool true]) (by simp [results, Tryz.results205, go_sem, hb1_1, hg1_1, hb2_1, hg2_1]) rfl ⟨rfl, ?_⟩ <;> repeat (with_reducible first | exact Below.refl _ _ | refine b_s ?_ _ | refine b_a ?_ _ | refine Below.drew ?_ | refine below_drewN ?_ _ | refine b_t ?_ h2 | refine b_t ?_ h1))
theorem sLineEnd_any (s : ByteArray) (p n : Nat) (v c : Bool) (w : World) (hs : s.size ≤ 1000) (hp : p ≤ s.size) (hn : n ≤ 99) :
    Calls Tryz.prog 244 #[.agg #[.string s, .int .i64 (p), .int .i64 (n), .bool v, .bool c]] w fun e w' => e = .returned (.tuple #[.agg #[.int .i64 (wayX (Nib.wayEol s p (max n 1))), .int .i64 (wayK (Nib.wayEol s p (max n 1)))], .bool (wayZ (Nib.wayEol s p (max n 1)))]) ∧ Below w.heap.size w w' := by
  have hm := Nib.lin_lt hp
  have HL : Hid (∀ ww, Calls Tryz.prog 239 #[.agg #[.string s, .int .i64 (p), .int .i64 (n), .bool v, .bool c]] ww fun e w' => e = .returned (.agg #[.int .i64 (Nib.att s (Nib.lin s p)), .int .i64 (Nib.fin s (Nib.att s (Nib.lin s p)))]) ∧ Below ww.heap.size ww w') := by
    intro ww
    have := sLine_any s p n v c p ww hs rfl hp
    rw [Nib.fin_eq hp, Nib.beg_eq hp] at this
    exact this
  have HN : Hid (∀ ww, Calls Tryz.prog 241 #[.agg #[.string s, .int .i64 (p), .int .i64 (n), .bool v, .bool c]] ww fun e w' => e = .returned (.int .i64 ((max n 1 : Nat) : Int)) ∧ Below ww.heap.size ww w') := by
    intro ww
    have := sNumber_any s p n v c ww
    rw [show max (n : Int) 1 = ((max n 1 : Nat) : Int) by omega] at this
    exact this
  have hN1 : 1 ≤ max n 1 := by omega
  have hN2 : max n 1 ≤ 99 := by omega
  generalize max n 1 = N at *
  have HD : Hid (∀ ww, Calls Tryz.prog 180 #[.string s, .agg #[.int .i64 (Nib.att s (Nib.lin s p)), .int .i64 (Nib.fin s (Nib.att s (Nib.lin s p)))], .int .i64 ((N : Int) - 1), .int .i64 1] ww fun e w' => e = .returned (.tuple #[.agg #[.int .i64 (Nib.att s (min (Nib.lin s p + (N - 1)) (Nib.lns s - 1))), .int .i64 (Nib.fin s (Nib.att s (min (Nib.lin s p + (N - 1)) (Nib.lns s - 1))))], .int .i64 ((min (N - 1) (Nib.lns s - 1 - Nib.lin s p) : Nat) : Int)]) ∧ Below ww.heap.size ww w') := by
    intro ww
    exact tFurther_down s _ _ _ _ (Nib.lin s p) (N - 1) ww hs hm rfl rfl (by omega) rfl (by omega)
  have hR : min (Nib.lin s p + (N - 1)) (Nib.lns s - 1) < Nib.lns s := by omega
  have hF := Nib.fin_le (Nib.att_in hR).1
  have HZ : Hid (Nib.wayEol s p N = if ((min (N - 1) (Nib.lns s - 1 - Nib.lin s p) : Nat) : Int) < (N : Int) - 1 then (0, 0, true) else (((Nib.lst s (Nib.att s (min (Nib.lin s p + (N - 1)) (Nib.lns s - 1))) : Nat) : Int), if (((Nib.att s (min (Nib.lin s p + (N - 1)) (Nib.lns s - 1)) : Nat) : Int) == ((Nib.fin s (Nib.att s (min (Nib.lin s p + (N - 1)) (Nib.lns s - 1))) : Nat) : Int)) = true then 0 else 1, false)) := by
    rw [Hid]; unfold Nib.wayEol
    by_cases h : (Nib.lns s : Int) ≤ (Nib.lin s p : Int) + N - 1
    · rw [if_pos h, if_pos (by omega)]
    · have hx : ¬ ((min (N - 1) (Nib.lns s - 1 - Nib.lin s p) : Nat) : Int) < (N : Int) - 1 := by omega
      rw [if_neg h]
      simp only [hx, if_false]
      rw [show min (Nib.lin s p + (N - 1)) (Nib.lns s - 1) = Nib.lin s p + N - 1 by omega, Nib.emp_lst (by omega)]
  have HM : Hid (((Nib.lst s (Nib.att s (min (Nib.lin s p + (N - 1)) (Nib.lns s - 1))) : Nat) : Int) = max ((Nib.att s (min (Nib.lin s p + (N - 1)) (Nib.lns s - 1)) : Nat) : Int) (((Nib.fin s (Nib.att s (min (Nib.lin s p + (N - 1)) (Nib.lns s - 1))) : Nat) : Int) - 1)) := by
    rw [Hid, Nib.lst_max, Nib.beg_att hR]
  rw [HM.out] at HZ
  clear HM
  generalize Nib.wayEol s p N = W at *
  generalize min (Nib.lin s p + (N - 1)) (Nib.lns s - 1) = R at *
  generalize min (N - 1) (Nib.lns s - 1 - Nib.lin s p) = G at *
  generalize Nib.fin s (Nib.att s R) = RF at *
  generalize Nib.att s R = RA at *
  generalize Nib.fin s (Nib.att s (Nib.lin s p)) = LF at *
  generalize Nib.att s (Nib.lin s p) = LA at *
  clear hR
  have HE : Hid (∀ ww, Calls Tryz.prog 185 #[.agg #[.int .i64 (RA), .int .i64 (RF)]] ww fun e w' => e = .returned (.bool ((RA : Int) == (RF : Int))) ∧ Below ww.heap.size ww w') := fun ww => tIsEmpty_any _ _ ww
  have HT : Hid (∀ ww, Calls Tryz.prog 202 #[.agg #[.int .i64 (RA), .int .i64 (RF)]] ww fun e w' => e = .returned (.int .i64 (max (RA : Int) ((RF : Int) - 1))) ∧ Below ww.heap.size ww w') := fun ww => tLast_any _ _ ww (by omega)
  generalize HM2 : max (RA : Int) ((RF : Int) - 1) = M at *
  by_cases hG : (G : Int) < (N : Int) - 1
  · rw [if_pos hG] at HZ
    rw [HZ.out, wayX_t, wayK_t, wayZ_t]
    clear HZ
    go_enter Tryz.func244, Tryz.ntmps244
    go_wp2_with fail
    refine (HN.out _).mono ?_
    rintro e w1 ⟨rfl, h1⟩
    obtain ⟨hc1, hf1⟩ := bcell h1
    have hz1 := h1.size
    try simp at hz1
    have hb1_0 := fun o => hc1 (w.heap.size) o (by first | omega | (simp <;> omega))
    have fb1_0 := fun o => hf1 (w.heap.size) o (by first | omega | (simp <;> omega))
    have hg1_0 : w.heap.size < w1.heap.size := (by omega)
    have hh1_0 : w.heap.size < w1.heap.size + 1 := (by omega)
    have hb1_1 := fun o => hc1 (w.heap.size + 1) o (by first | omega | (simp <;> omega))
    have fb1_1 := fun o => hf1 (w.heap.size + 1) o (by first | omega | (simp <;> omega))
    have hg1_1 : w.heap.size + 1 < w1.heap.size := (by omega)
    have hh1_1 : w.heap.size + 1 < w1.heap.size + 1 := (by omega)
    have s0 : w1.cell? ⟨w.heap.size, 0, none⟩ = some (.string s) := by rw [hb1_0]; simp
    have s1 : w1.cell? ⟨w.heap.size, 1, none⟩ = some (.int .i64 p) := by rw [hb1_0]; simp
    have s2 : w1.cell? ⟨w.heap.size, 2, none⟩ = some (.int .i64 n) := by rw [hb1_0]; simp
    have s3 : w1.cell? ⟨w.heap.size, 3, none⟩ = some (.bool v) := by rw [hb1_0]; simp
    have s4 : w1.cell? ⟨w.heap.size, 4, none⟩ = some (.bool c) := by rw [hb1_0]; simp
    go_wp2_with fail
    go_region_held3 (fun ww => ww.cell? ⟨w.heap.size, 0, none⟩ = some (.string s) ∧ ww.cell? ⟨w.heap.size, 1, none⟩ = some (.int .i64 p) ∧ ww.cell? ⟨w.heap.size, 2, none⟩ = some (.int .i64 n) ∧ ww.cell? ⟨w.heap.size, 3, none⟩ = some (.bool v) ∧ ww.cell? ⟨w.heap.size, 4, none⟩ = some (.bool c)) ((refine ⟨?_, ?_, ?_, ?_, ?_⟩ <;> (first | (go_simp; done) | (repeat (first | assumption | (with_reducible refine memLater ((Below.refl _ _).alloc (Nat.le_refl _) _) ?_) | (with_reducible refine memLater ((Below.refl _ _).drew) ?_) | (with_reducible refine memLater h2 ?_) | (with_reducible refine memLater h3 ?_) | (with_reducible refine (memSet (by omega)).trans ?_)))))) (first | (go_at_call 239; refine (HL.out _).mono ?_; rintro r2 w2 ⟨rfl, h2⟩; obtain ⟨hc2, hf2⟩ := bcell h2; have hz2 := h2.size; (try simp at hz2); (try have hl2_0 : w.heap.size < w2.heap.size := (by omega)); (try have hk2_0 : w.heap.size < w2.heap.size + 1 := (by omega)); have hb2_0 := fun o => hc2 (w.heap.size + 1) o (by first | omega | (simp <;> omega)); have fb2_0 := fun o => hf2 (w.heap.size + 1) o (by first | omega | (simp <;> omega)); (try have hg2_0 : w.heap.size + 1 < w2.heap.size := (by omega)); (try have hh2_0 : w.heap.size + 1 < w2.heap.size + 1 := (by omega)); (try have hg2_1 : w1.heap.size < w2.heap.size := (by omega)); (try have hh2_1 : w1.heap.size < w2.heap.size + 1 := (by omega)); (try have hg2_2 : w2.heap.size < w2.heap.size := (by omega)); (try have hh2_2 : w2.heap.size < w2.heap.size + 1 := (by omega))) | (go_at_call 180; refine (HD.out _).mono ?_; rintro r3 w3 ⟨rfl, h3⟩; obtain ⟨hc3, hf3⟩ := bcell h3; have hz3 := h3.size; (try simp at hz3); (try have hl3_0 : w.heap.size < w3.heap.size := (by omega)); (try have hk3_0 : w.heap.size < w3.heap.size + 1 := (by omega)); have hb3_0 := fun o => hc3 (w.heap.size + 1) o (by first | omega | (simp <;> omega)); have fb3_0 := fun o => hf3 (w.heap.size + 1) o (by first | omega | (simp <;> omega)); (try have hg3_0 : w.heap.size + 1 < w3.heap.size := (by omega)); (try have hh3_0 : w.heap.size + 1 < w3.heap.size + 1 := (by omega)); (try have hg3_1 : w1.heap.size < w3.heap.size := (by omega)); (try have hh3_1 : w1.heap.size < w3.heap.size + 1 := (by omega)); (try have hg3_2 : w2.heap.size < w3.heap.size := (by omega)); (try have hh3_2 : w2.heap.size < w3.heap.size + 1 := (by omega))))
    go_wp2
    all_goals
      first
        | (refine bodyPost_ret (v := .tuple #[.agg #[.int .i64 0, .int .i64 0], .bool false]) (by simp [results, Tryz.results244, go_sem, hb1_1, hb2_0, hb3_0, hg1_1, hg2_0, hg3_0]) rfl ⟨rfl, ?_⟩ <;> repeat (with_reducible first | exact Below.refl _ _ | refine b_s ?_ _ | refine b_a ?_ _ | refine Below.drew ?_ | refine below_drewN ?_ _ | refine b_t ?_ h3 | refine b_t ?_ h2 | refine b_t ?_ h1))
  · rw [if_neg hG] at HZ
    rw [HZ.out, wayX_f, wayK_f, wayZ_f]
    clear HZ
    have hbe : ((G : Int) < (N : Int) - 1) = False := by simp; omega
    cases hE : ((RA : Int) == (RF : Int)) with
    | true =>
      rw [hE] at HE
      have hM : M = RA := by rw [← HM2]; simp at hE; omega
      rw [if_pos rfl, hM]
      clear HT
      go_enter Tryz.func244, Tryz.ntmps244
      go_wp2_with fail
      refine (HN.out _).mono ?_
      rintro e w1 ⟨rfl, h1⟩
      obtain ⟨hc1, hf1⟩ := bcell h1
      have hz1 := h1.size
      try simp at hz1
      have hb1_0 := fun o => hc1 (w.heap.size) o (by first | omega | (simp <;> omega))
      have fb1_0 := fun o => hf1 (w.heap.size) o (by first | omega | (simp <;> omega))
      have hg1_0 : w.heap.size < w1.heap.size := (by omega)
      have hh1_0 : w.heap.size < w1.heap.size + 1 := (by omega)
      have hb1_1 := fun o => hc1 (w.heap.size + 1) o (by first | omega | (simp <;> omega))
      have fb1_1 := fun o => hf1 (w.heap.size + 1) o (by first | omega | (simp <;> omega))
      have hg1_1 : w.heap.size + 1 < w1.heap.size := (by omega)
      have hh1_1 : w.heap.size + 1 < w1.heap.size + 1 := (by omega)
      have s0 : w1.cell? ⟨w.heap.size, 0, none⟩ = some (.string s) := by rw [hb1_0]; simp
      have s1 : w1.cell? ⟨w.heap.size, 1, none⟩ = some (.int .i64 p) := by rw [hb1_0]; simp
      have s2 : w1.cell? ⟨w.heap.size, 2, none⟩ = some (.int .i64 n) := by rw [hb1_0]; simp
      have s3 : w1.cell? ⟨w.heap.size, 3, none⟩ = some (.bool v) := by rw [hb1_0]; simp
      have s4 : w1.cell? ⟨w.heap.size, 4, none⟩ = some (.bool c) := by rw [hb1_0]; simp
      go_wp2_with fail
      go_region_held3 (fun ww => ww.cell? ⟨w.heap.size, 0, none⟩ = some (.string s) ∧ ww.cell? ⟨w.heap.size, 1, none⟩ = some (.int .i64 p) ∧ ww.cell? ⟨w.heap.size, 2, none⟩ = some (.int .i64 n) ∧ ww.cell? ⟨w.heap.size, 3, none⟩ = some (.bool v) ∧ ww.cell? ⟨w.heap.size, 4, none⟩ = some (.bool c)) ((refine ⟨?_, ?_, ?_, ?_, ?_⟩ <;> (first | (go_simp; done) | (repeat (first | assumption | (with_reducible refine memLater ((Below.refl _ _).alloc (Nat.le_refl _) _) ?_) | (with_reducible refine memLater ((Below.refl _ _).drew) ?_) | (with_reducible refine memLater h2 ?_) | (with_reducible refine memLater h3 ?_) | (with_reducible refine (memSet (by omega)).trans ?_)))))) (first | (go_at_call 239; refine (HL.out _).mono ?_; rintro r2 w2 ⟨rfl, h2⟩; obtain ⟨hc2, hf2⟩ := bcell h2; have hz2 := h2.size; (try simp at hz2); (try have hl2_0 : w.heap.size < w2.heap.size := (by omega)); (try have hk2_0 : w.heap.size < w2.heap.size + 1 := (by omega)); have hb2_0 := fun o => hc2 (w.heap.size + 1) o (by first | omega | (simp <;> omega)); have fb2_0 := fun o => hf2 (w.heap.size + 1) o (by first | omega | (simp <;> omega)); (try have hg2_0 : w.heap.size + 1 < w2.heap.size := (by omega)); (try have hh2_0 : w.heap.size + 1 < w2.heap.size + 1 := (by omega)); (try have hg2_1 : w1.heap.size < w2.heap.size := (by omega)); (try have hh2_1 : w1.heap.size < w2.heap.size + 1 := (by omega)); (try have hg2_2 : w2.heap.size < w2.heap.size := (by omega)); (try have hh2_2 : w2.heap.size < w2.heap.size + 1 := (by omega))) | (go_at_call 180; refine (HD.out _).mono ?_; rintro r3 w3 ⟨rfl, h3⟩; obtain ⟨hc3, hf3⟩ := bcell h3; have hz3 := h3.size; (try simp at hz3); (try have hl3_0 : w.heap.size < w3.heap.size := (by omega)); (try have hk3_0 : w.heap.size < w3.heap.size + 1 := (by omega)); have hb3_0 := fun o => hc3 (w.heap.size + 1) o (by first | omega | (simp <;> omega)); have fb3_0 := fun o => hf3 (w.heap.size + 1) o (by first | omega | (simp <;> omega)); (try have hg3_0 : w.heap.size + 1 < w3.heap.size := (by omega)); (try have hh3_0 : w.heap.size + 1 < w3.heap.size + 1 := (by omega)); (try have hg3_1 : w1.heap.size < w3.heap.size := (by omega)); (try have hh3_1 : w1.heap.size < w3.heap.size + 1 := (by omega)); (try have hg3_2 : w2.heap.size < w3.heap.size := (by omega)); (try have hh3_2 : w2.heap.size < w3.heap.size + 1 := (by omega))))
      all_goals
        go_wp2_with fail
        refine (HE.out _).mono ?_
        rintro e w4 ⟨rfl, h4⟩
        obtain ⟨hc4, hf4⟩ := bcell h4
        have hz4 := h4.size
        try simp at hz4
        have hb4_0 := fun o => hc4 (w.heap.size + 1) o (by first | omega | (simp <;> omega))
        have fb4_0 := fun o => hf4 (w.heap.size + 1) o (by first | omega | (simp <;> omega))
        have hg4_0 : w.heap.size + 1 < w4.heap.size := (by omega)
        have hh4_0 : w.heap.size + 1 < w4.heap.size + 1 := (by omega)
        (try have q1 : w1.heap.size < w4.heap.size := (by omega))
        (try have q2 : w2.heap.size < w4.heap.size := (by omega))
        (try have q3 : w3.heap.size < w4.heap.size := (by omega))
        go_wp2
      all_goals
        first
          | (refine bodyPost_ret (v := .tuple #[.agg #[.int .i64 RA, .int .i64 0], .bool true]) (by simp [results, Tryz.results244, go_sem, hb1_1, hb2_0, hb3_0, hb4_0, hg1_1, hg2_0, hg3_0, hg4_0]) rfl ⟨rfl, ?_⟩ <;> repeat (with_reducible first | exact Below.refl _ _ | refine b_s ?_ _ | refine b_a ?_ _ | refine Below.drew ?_ | refine below_drewN ?_ _ | refine b_t ?_ h4 | refine b_t ?_ h3 | refine b_t ?_ h2 | refine b_t ?_ h1))
    | false =>
      rw [hE] at HE
      rw [if_neg (by simp)]
      go_enter Tryz.func244, Tryz.ntmps244
      go_wp2_with fail
      refine (HN.out _).mono ?_
      rintro e w1 ⟨rfl, h1⟩
      obtain ⟨hc1, hf1⟩ := bcell h1
      have hz1 := h1.size
      try simp at hz1
      have hb1_0 := fun o => hc1 (w.heap.size) o (by first | omega | (simp <;> omega))
      have fb1_0 := fun o => hf1 (w.heap.size) o (by first | omega | (simp <;> omega))
      have hg1_0 : w.heap.size < w1.heap.size := (by omega)
      have hh1_0 : w.heap.size < w1.heap.size + 1 := (by omega)
      have hb1_1 := fun o => hc1 (w.heap.size + 1) o (by first | omega | (simp <;> omega))
      have fb1_1 := fun o => hf1 (w.heap.size + 1) o (by first | omega | (simp <;> omega))
      have hg1_1 : w.heap.size + 1 < w1.heap.size := (by omega)
      have hh1_1 : w.heap.size + 1 < w1.heap.size + 1 := (by omega)
      have s0 : w1.cell? ⟨w.heap.size, 0, none⟩ = some (.string s) := by rw [hb1_0]; simp
      have s1 : w1.cell? ⟨w.heap.size, 1, none⟩ = some (.int .i64 p) := by rw [hb1_0]; simp
      have s2 : w1.cell? ⟨w.heap.size, 2, none⟩ = some (.int .i64 n) := by rw [hb1_0]; simp
      have s3 : w1.cell? ⟨w.heap.size, 3, none⟩ = some (.bool v) := by rw [hb1_0]; simp
      have s4 : w1.cell? ⟨w.heap.size, 4, none⟩ = some (.bool c) := by rw [hb1_0]; simp
      go_wp2_with fail
      go_region_held3 (fun ww => ww.cell? ⟨w.heap.size, 0, none⟩ = some (.string s) ∧ ww.cell? ⟨w.heap.size, 1, none⟩ = some (.int .i64 p) ∧ ww.cell? ⟨w.heap.size, 2, none⟩ = some (.int .i64 n) ∧ ww.cell? ⟨w.heap.size, 3, none⟩ = some (.bool v) ∧ ww.cell? ⟨w.heap.size, 4, none⟩ = some (.bool c)) ((refine ⟨?_, ?_, ?_, ?_, ?_⟩ <;> (first | (go_simp; done) | (repeat (first | assumption | (with_reducible refine memLater ((Below.refl _ _).alloc (Nat.le_refl _) _) ?_) | (with_reducible refine memLater ((Below.refl _ _).drew) ?_) | (with_reducible refine memLater h2 ?_) | (with_reducible refine memLater h3 ?_) | (with_reducible refine (memSet (by omega)).trans ?_)))))) (first | (go_at_call 239; refine (HL.out _).mono ?_; rintro r2 w2 ⟨rfl, h2⟩; obtain ⟨hc2, hf2⟩ := bcell h2; have hz2 := h2.size; (try simp at hz2); (try have hl2_0 : w.heap.size < w2.heap.size := (by omega)); (try have hk2_0 : w.heap.size < w2.heap.size + 1 := (by omega)); have hb2_0 := fun o => hc2 (w.heap.size + 1) o (by first | omega | (simp <;> omega)); have fb2_0 := fun o => hf2 (w.heap.size + 1) o (by first | omega | (simp <;> omega)); (try have hg2_0 : w.heap.size + 1 < w2.heap.size := (by omega)); (try have hh2_0 : w.heap.size + 1 < w2.heap.size + 1 := (by omega)); (try have hg2_1 : w1.heap.size < w2.heap.size := (by omega)); (try have hh2_1 : w1.heap.size < w2.heap.size + 1 := (by omega)); (try have hg2_2 : w2.heap.size < w2.heap.size := (by omega)); (try have hh2_2 : w2.heap.size < w2.heap.size + 1 := (by omega))) | (go_at_call 180; refine (HD.out _).mono ?_; rintro r3 w3 ⟨rfl, h3⟩; obtain ⟨hc3, hf3⟩ := bcell h3; have hz3 := h3.size; (try simp at hz3); (try have hl3_0 : w.heap.size < w3.heap.size := (by omega)); (try have hk3_0 : w.heap.size < w3.heap.size + 1 := (by omega)); have hb3_0 := fun o => hc3 (w.heap.size + 1) o (by first | omega | (simp <;> omega)); have fb3_0 := fun o => hf3 (w.heap.size + 1) o (by first | omega | (simp <;> omega)); (try have hg3_0 : w.heap.size + 1 < w3.heap.size := (by omega)); (try have hh3_0 : w.heap.size + 1 < w3.heap.size + 1 := (by omega)); (try have hg3_1 : w1.heap.size < w3.heap.size := (by omega)); (try have hh3_1 : w1.heap.size < w3.heap.size + 1 := (by omega)); (try have hg3_2 : w2.heap.size < w3.heap.size := (by omega)); (try have hh3_2 : w2.heap.size < w3.heap.size + 1 := (by omega))))
      all_goals
        go_wp2_with fail
        refine (HE.out _).mono ?_
        rintro e w4 ⟨rfl, h4⟩
        obtain ⟨hc4, hf4⟩ := bcell h4
        have hz4 := h4.size
        try simp at hz4
        have hb4_0 := fun o => hc4 (w.heap.size + 1) o (by first | omega | (simp <;> omega))
        have fb4_0 := fun o => hf4 (w.heap.size + 1) o (by first | omega | (simp <;> omega))
        have hg4_0 : w.heap.size + 1 < w4.heap.size := (by omega)
        have hh4_0 : w.heap.size + 1 < w4.heap.size + 1 := (by omega)
        (try have q1 : w1.heap.size < w4.heap.size := (by omega))
        (try have q2 : w2.heap.size < w4.heap.size := (by omega))
        (try have q3 : w3.heap.size < w4.heap.size := (by omega))
        go_wp2_with fail
        refine (HT.out _).mono ?_
        rintro e w5 ⟨rfl, h5⟩
        obtain ⟨hc5, hf5⟩ := bcell h5
        have hz5 := h5.size
        try simp at hz5
        have hb5_0 := fun o => hc5 (w.heap.size + 1) o (by first | omega | (simp <;> omega))
        have fb5_0 := fun o => hf5 (w.heap.size + 1) o (by first | omega | (simp <;> omega))
        have hg5_0 : w.heap.size + 1 < w5.heap.size := (by omega)
        have hh5_0 : w.heap.size + 1 < w5.heap.size + 1 := (by omega)
        go_wp2
      all_goals
        first
          | (refine bodyPost_ret (v := .tuple #[.agg #[.int .i64 M, .int .i64 1], .bool true]) (by simp [results, Tryz.results244, go_sem, hb1_1, hb2_0, hb3_0, hb4_0, hb5_0, hg1_1, hg2_0, hg3_0, hg4_0, hg5_0]) rfl ⟨rfl, ?_⟩ <;> repeat (with_reducible first | exact Below.refl _ _ | refine b_s ?_ _ | refine b_a ?_ _ | refine Below.drew ?_ | refine below_drewN ?_ _ | refine b_t ?_ h5 | refine b_t ?_ h4 | refine b_t ?_ h3 | refine b_t ?_ h2 | refine b_t ?_ h1))
theorem sInLine_eol (s : ByteArray) (p n : Nat) (v c : Bool) (w : World) (hs : s.size ≤ 1000) (hp : p ≤ s.size) (hn : n ≤ 99) :
    Calls Tryz.prog 205 #[.agg #[.string s, .int .i64 (p), .int .i64 (n), .bool v, .bool c], .int .u8 36] w fun e w' => e = .returned (.tuple #[.agg #[.int .i64 (wayX (Nib.wayEol s p (max n 1))), .int .i64 (wayK (Nib.wayEol s p (max n 1)))], .bool (wayZ (Nib.wayEol s p (max n 1)))]) ∧ Below w.heap.size w w' := by
  have HL : Hid (∀ ww, Calls Tryz.prog 239 #[.agg #[.string s, .int .i64 (p), .int .i64 (n), .bool v, .bool c]] ww fun e w' => e = .returned (.agg #[.int .i64 (Nib.beg s p), .int .i64 (Nib.fin s p)]) ∧ Below ww.heap.size ww w') := fun ww => sLine_any s p n v c p ww hs rfl hp
  have HE : Hid (∀ ww, Calls Tryz.prog 244 #[.agg #[.string s, .int .i64 (p), .int .i64 (n), .bool v, .bool c]] ww fun e w' => e = .returned (.tuple #[.agg #[.int .i64 (wayX (Nib.wayEol s p (max n 1))), .int .i64 (wayK (Nib.wayEol s p (max n 1)))], .bool (wayZ (Nib.wayEol s p (max n 1)))]) ∧ Below ww.heap.size ww w') := fun ww => sLineEnd_any s p n v c ww hs hp hn
  generalize Nib.wayEol s p (max n 1) = W at *
  generalize Nib.beg s p = B at *
  generalize Nib.fin s p = F at *
  go_enter Tryz.func205, Tryz.ntmps205
  go_wp2_with fail
  refine (HL.out _).mono ?_
  rintro e w1 ⟨rfl, h1⟩
  obtain ⟨hc1, hf1⟩ := bcell h1
  have hz1 := h1.size
  try simp at hz1
  have hb1_0 := fun o => hc1 (w.heap.size) o (by first | omega | (simp <;> omega))
  have fb1_0 := fun o => hf1 (w.heap.size) o (by first | omega | (simp <;> omega))
  have hg1_0 : w.heap.size < w1.heap.size := (by omega)
  have hh1_0 : w.heap.size < w1.heap.size + 1 := (by omega)
  have hb1_1 := fun o => hc1 (w.heap.size + 1) o (by first | omega | (simp <;> omega))
  have fb1_1 := fun o => hf1 (w.heap.size + 1) o (by first | omega | (simp <;> omega))
  have hg1_1 : w.heap.size + 1 < w1.heap.size := (by omega)
  have hh1_1 : w.heap.size + 1 < w1.heap.size + 1 := (by omega)
  go_wp2_with fail
  refine (HE.out _).mono ?_
  rintro e w2 ⟨rfl, h2⟩
  obtain ⟨hc2, hf2⟩ := bcell h2
  have hz2 := h2.size
  try simp at hz2
  have hb2_0 := fun o => hc2 (w.heap.size) o (by first | omega | (simp <;> omega))
  have fb2_0 := fun o => hf2 (w.heap.size) o (by first | omega | (simp <;> omega))
  have hg2_0 : w.heap.size < w2.heap.size := (by omega)
  have hh2_0 : w.heap.size < w2.heap.size + 1 := (by omega)
  have hb2_1 := fun o => hc2 (w.heap.size + 1) o (by first | omega | (simp <;> omega))
  have fb2_1 := fun o => hf2 (w.heap.size + 1) o (by first | omega | (simp <;> omega))
  have hg2_1 : w.heap.size + 1 < w2.heap.size := (by omega)
  have hh2_1 : w.heap.size + 1 < w2.heap.size + 1 := (by omega)
  go_wp2
  all_goals
    first
      | (refine bodyPost_ret (v := .tuple #[.agg #[.int .i64 (wayX (W)), .int .i64 (wayK (W))], .bool (wayZ (W))]) (by simp [results, Tryz.results205, go_sem, hb1_1, hg1_1, hb2_1, hg2_1]) rfl ⟨rfl, ?_⟩ <;> repeat (with_reducible first | exact Below.refl _ _ | refine b_s ?_ _ | refine b_a ?_ _ | refine Below.drew ?_ | refine below_drewN ?_ _ | refine b_t ?_ h2 | refine b_t ?_ h1))
end Go.Proofs.YtlendfhehhacpaaGreat
