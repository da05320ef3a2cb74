/- Joined of the texts WaysD. -/
import Derived.Test.YtlendfhehhacpaaGreatP12
set_option linter.unusedVariables false
set_option linter.unusedSimpArgs false
set_option maxRecDepth 100000
set_option maxHeartbeats 8000000
namespace Go.Proofs.YtlendfhehhacpaaGreat
open Go.RowKit
theorem sToLine_gen (s : ByteArray) (p n : Nat) (v c : Bool) (key d : Int) (w : World) (W : Int × Int × Bool) (R G N : Nat) (hs : s.size ≤ 1000) (hp : p ≤ s.size) (hn : n ≤ 99) (hN : N = max n 1) (hR : R < Nib.lns s)
    (hk : (key = 106 ∧ d = 1) ∨ (key = 107 ∧ d = -1))
    (HD : Hid (∀ ww, Calls Tryz.prog 180 #[.string s, .agg #[.int .i64 (Nib.beg s p), .int .i64 (Nib.fin s p)], .int .i64 N, .int .i64 d] ww fun e w' => e = .returned (.tuple #[.agg #[.int .i64 (Nib.att s R), .int .i64 (Nib.fin s (Nib.att s R))], .int .i64 G]) ∧ Below ww.heap.size ww w'))
    (HZ : Hid (W = if (G : Int) < (N : Int) then (0, 0, true) else (min (((Nib.att s R : Nat) : Int) + ((p : Int) - Nib.beg s p)) (max ((Nib.att s R : Nat) : Int) (((Nib.fin s (Nib.att s R) : Nat) : Int) - 1)), 2, false))) :
    Calls Tryz.prog 206 #[.agg #[.string s, .int .i64 (p), .int .i64 (n), .bool v, .bool c], .int .u8 key] w fun e w' => e = .returned (.tuple #[.agg #[.int .i64 (wayX (W)), .int .i64 (wayK (W))], .bool (wayZ (W))]) ∧ Below w.heap.size w w' := by
  have HL : Hid (∀ ww, Calls Tryz.prog 239 #[.agg #[.string s, .int .i64 (p), .int .i64 (n), .bool v, .bool c]] ww fun e w' => e = .returned (.agg #[.int .i64 (Nib.beg s p), .int .i64 (Nib.fin s p)]) ∧ Below ww.heap.size ww w') := fun ww => sLine_any s p n v c p ww hs rfl hp
  have HN : Hid (∀ ww, Calls Tryz.prog 241 #[.agg #[.string s, .int .i64 (p), .int .i64 (n), .bool v, .bool c]] ww fun e w' => e = .returned (.int .i64 N) ∧ Below ww.heap.size ww w') := by
    intro ww
    have := sNumber_any s p n v c ww
    rw [show max (n : Int) 1 = (N : Int) by omega] at this
    exact this
  have hF := Nib.fin_le (Nib.att_in hR).1
  have hA := (Nib.att_in hR).1
  have hB := Nib.beg_le s p
  have HC : Hid (∀ ww, Calls Tryz.prog 245 #[.agg #[.int .i64 (Nib.att s R), .int .i64 (Nib.fin s (Nib.att s R))], .int .i64 ((p : Int) - Nib.beg s p)] ww fun e w' => e = .returned (.int .i64 (min (((Nib.att s R : Nat) : Int) + ((p : Int) - Nib.beg s p)) (max ((Nib.att s R : Nat) : Int) (((Nib.fin s (Nib.att s R) : Nat) : Int) - 1)))) ∧ Below ww.heap.size ww w') := fun ww => tColumn_any _ _ _ ww (by omega) (by omega)
  generalize min (((Nib.att s R : Nat) : Int) + ((p : Int) - Nib.beg s p)) (max ((Nib.att s R : Nat) : Int) (((Nib.fin s (Nib.att s R) : Nat) : Int) - 1)) = X at *
  generalize Nib.fin s (Nib.att s R) = RF at *
  generalize Nib.att s R = RA at *
  generalize Nib.fin s p = F at *
  generalize Nib.beg s p = B at *
  clear hR
  have hw : IntKind.i64.wrap ((p : Int) - B) = (p : Int) - B := by rw [IntKind.wrap_i64]; omega
  have hN2 : N ≤ 99 := by omega
  clear hN
  by_cases hG : (G : Int) < (N : Int)
  · rw [if_pos hG] at HZ
    rw [HZ.out, wayX_t, wayK_t, wayZ_t]
    clear HZ
    rcases hk with ⟨rfl, rfl⟩ | ⟨rfl, rfl⟩
    · go_enter Tryz.func206, Tryz.ntmps206
      go_wp2_with fail
      refine (HL.out _).mono ?_
      rintro e w1 ⟨rfl, h1⟩
      obtain ⟨hc1, hf1⟩ := bcell h1
      have hz1 := h1.size
      try simp at hz1
      have hb1_0 := fun o => hc1 (w.heap.size) o (by first | omega | (simp <;> omega))
      have fb1_0 := fun o => hf1 (w.heap.size) o (by first | omega | (simp <;> omega))
      have hg1_0 : w.heap.size < w1.heap.size := (by omega)
      have hh1_0 : w.heap.size < w1.heap.size + 1 := (by omega)
      have hb1_1 := fun o => hc1 (w.heap.size + 1) o (by first | omega | (simp <;> omega))
      have fb1_1 := fun o => hf1 (w.heap.size + 1) o (by first | omega | (simp <;> omega))
      have hg1_1 : w.heap.size + 1 < w1.heap.size := (by omega)
      have hh1_1 : w.heap.size + 1 < w1.heap.size + 1 := (by omega)
      have s0 : (w1).cell? ⟨w.heap.size, 0, none⟩ = some (.string s) := by rw [hb1_0]; simp
      have s1 : (w1).cell? ⟨w.heap.size, 1, none⟩ = some (.int .i64 p) := by rw [hb1_0]; simp
      have s2 : (w1).cell? ⟨w.heap.size, 2, none⟩ = some (.int .i64 n) := by rw [hb1_0]; simp
      have s3 : (w1).cell? ⟨w.heap.size, 3, none⟩ = some (.bool v) := by rw [hb1_0]; simp
      have s4 : (w1).cell? ⟨w.heap.size, 4, none⟩ = some (.bool c) := by rw [hb1_0]; simp
      have b0 : w1.cell? ⟨w.heap.size + 1, 0, none⟩ = some (.int .i64 0) := by rw [hb1_1]; simp
      have b1 : w1.cell? ⟨w.heap.size + 1, 1, none⟩ = some (.int .i64 0) := by rw [hb1_1]; simp
      have ne1 : ¬ w1.heap.size = w.heap.size := (by omega)
      have ne2 : ¬ w.heap.size = w1.heap.size := (by omega)
      have t0 : (w1.alloc (.cells #[.int .i64 B, .int .i64 F] 128)).cell? ⟨w1.heap.size, 0, none⟩ = some (.int .i64 B) := by simp
      have t1 : (w1.alloc (.cells #[.int .i64 B, .int .i64 F] 128)).cell? ⟨w1.heap.size, 1, none⟩ = some (.int .i64 F) := by simp
      go_wp2_with fail
      go_region_held3 (fun ww => ww.cell? ⟨w.heap.size, 0, none⟩ = some (.string s) ∧ ww.cell? ⟨w.heap.size, 1, none⟩ = some (.int .i64 p) ∧ ww.cell? ⟨w.heap.size, 2, none⟩ = some (.int .i64 n) ∧ ww.cell? ⟨w.heap.size, 3, none⟩ = some (.bool v) ∧ ww.cell? ⟨w.heap.size, 4, none⟩ = some (.bool c) ∧ ww.cell? ⟨w1.heap.size, 0, none⟩ = some (.int .i64 B) ∧ ww.cell? ⟨w1.heap.size, 1, none⟩ = some (.int .i64 F)) ((refine ⟨?_, ?_, ?_, ?_, ?_, ?_, ?_⟩ <;> (first | (go_simp; done) | (repeat (first | assumption | (with_reducible refine memLater ((Below.refl _ _).alloc (Nat.le_refl _) _) ?_) | (with_reducible refine memLater ((Below.refl _ _).drew) ?_) | (with_reducible refine memLater h2 ?_) | (with_reducible refine memLater h3 ?_) | (with_reducible refine (memSet (by omega)).trans ?_)))))) (first | (go_at_call 241; refine (HN.out _).mono ?_; rintro r2 w2 ⟨rfl, h2⟩; obtain ⟨hc2, hf2⟩ := bcell h2; have hz2 := h2.size; (try simp at hz2); (try have hl2_0 : w.heap.size < w2.heap.size := (by omega)); (try have hk2_0 : w.heap.size < w2.heap.size + 1 := (by omega)); (try have hl2_1 : w1.heap.size < w2.heap.size := (by omega)); (try have hk2_1 : w1.heap.size < w2.heap.size + 1 := (by omega)); have hb2_0 := fun o => hc2 (w.heap.size + 1) o (by first | omega | (simp <;> omega)); have fb2_0 := fun o => hf2 (w.heap.size + 1) o (by first | omega | (simp <;> omega)); have hb2_1 := fun o => hc2 (w1.heap.size) o (by first | omega | (simp <;> omega)); have fb2_1 := fun o => hf2 (w1.heap.size) o (by first | omega | (simp <;> omega)); have hb2_2 := fun o => hc2 (w.heap.size) o (by first | omega | (simp <;> omega)); have fb2_2 := fun o => hf2 (w.heap.size) o (by first | omega | (simp <;> omega)); (try have hg2_0 : w.heap.size + 1 < w2.heap.size := (by omega)); (try have hh2_0 : w.heap.size + 1 < w2.heap.size + 1 := (by omega)); (try have hg2_1 : w1.heap.size < w2.heap.size := (by omega)); (try have hh2_1 : w1.heap.size < w2.heap.size + 1 := (by omega)); (try have hg2_2 : w.heap.size < w2.heap.size := (by omega)); (try have hh2_2 : w.heap.size < w2.heap.size + 1 := (by omega)); (try have hg2_3 : w1.heap.size + 1 < w2.heap.size := (by omega)); (try have hh2_3 : w1.heap.size + 1 < w2.heap.size + 1 := (by omega)); (try have hg2_4 : w2.heap.size < w2.heap.size := (by omega)); (try have hh2_4 : w2.heap.size < w2.heap.size + 1 := (by omega))) | (go_at_call 180; refine (HD.out _).mono ?_; rintro r3 w3 ⟨rfl, h3⟩; obtain ⟨hc3, hf3⟩ := bcell h3; have hz3 := h3.size; (try simp at hz3); (try have hl3_0 : w.heap.size < w3.heap.size := (by omega)); (try have hk3_0 : w.heap.size < w3.heap.size + 1 := (by omega)); (try have hl3_1 : w1.heap.size < w3.heap.size := (by omega)); (try have hk3_1 : w1.heap.size < w3.heap.size + 1 := (by omega)); have hb3_0 := fun o => hc3 (w.heap.size + 1) o (by first | omega | (simp <;> omega)); have fb3_0 := fun o => hf3 (w.heap.size + 1) o (by first | omega | (simp <;> omega)); have hb3_1 := fun o => hc3 (w1.heap.size) o (by first | omega | (simp <;> omega)); have fb3_1 := fun o => hf3 (w1.heap.size) o (by first | omega | (simp <;> omega)); have hb3_2 := fun o => hc3 (w.heap.size) o (by first | omega | (simp <;> omega)); have fb3_2 := fun o => hf3 (w.heap.size) o (by first | omega | (simp <;> omega)); (try have hg3_0 : w.heap.size + 1 < w3.heap.size := (by omega)); (try have hh3_0 : w.heap.size + 1 < w3.heap.size + 1 := (by omega)); (try have hg3_1 : w1.heap.size < w3.heap.size := (by omega)); (try have hh3_1 : w1.heap.size < w3.heap.size + 1 := (by omega)); (try have hg3_2 : w.heap.size < w3.heap.size := (by omega)); (try have hh3_2 : w.heap.size < w3.heap.size + 1 := (by omega)); (try have hg3_3 : w1.heap.size + 1 < w3.heap.size := (by omega)); (try have hh3_3 : w1.heap.size + 1 < w3.heap.size + 1 := (by omega)); (try have hg3_4 : w2.heap.size < w3.heap.size := (by omega)); (try have hh3_4 : w2.heap.size < w3.heap.size + 1 := (by omega))))
      all_goals
        go_wp2_with fail
        refine (HN.out _).mono ?_
        rintro e w4 ⟨rfl, h4⟩
        obtain ⟨hc4, hf4⟩ := bcell h4
        have hz4 := h4.size
        try simp at hz4
        have hb4_0 := fun o => hc4 (w.heap.size + 1) o (by first | omega | (simp <;> omega))
        have fb4_0 := fun o => hf4 (w.heap.size + 1) o (by first | omega | (simp <;> omega))
        have hg4_0 : w.heap.size + 1 < w4.heap.size := (by omega)
        have hh4_0 : w.heap.size + 1 < w4.heap.size + 1 := (by omega)
        have hb4_1 := fun o => hc4 (w1.heap.size) o (by first | omega | (simp <;> omega))
        have fb4_1 := fun o => hf4 (w1.heap.size) o (by first | omega | (simp <;> omega))
        have hg4_1 : w1.heap.size < w4.heap.size := (by omega)
        have hh4_1 : w1.heap.size < w4.heap.size + 1 := (by omega)
        have hb4_2 := fun o => hc4 (w.heap.size) o (by first | omega | (simp <;> omega))
        have fb4_2 := fun o => hf4 (w.heap.size) o (by first | omega | (simp <;> omega))
        have hg4_2 : w.heap.size < w4.heap.size := (by omega)
        have hh4_2 : w.heap.size < w4.heap.size + 1 := (by omega)
        (try have q1 : w1.heap.size + 1 < w4.heap.size := (by omega))
        (try have q2 : w2.heap.size < w4.heap.size := (by omega))
        (try have q3 : w3.heap.size < w4.heap.size := (by omega))
        have z0 : (w4).cell? ⟨w.heap.size + 1, 0, none⟩ = some (.int .i64 0) := by (repeat (first | assumption | (with_reducible refine memLater ((Below.refl _ _).alloc (Nat.le_refl _) _) ?_) | (with_reducible refine memLater ((Below.refl _ _).drew) ?_) | (with_reducible refine memLater h4 ?_) | (with_reducible refine memLater h3 ?_) | (with_reducible refine memLater h2 ?_) | (with_reducible refine (memSet (by omega)).trans ?_)))
        have z1 : (w4).cell? ⟨w.heap.size + 1, 1, none⟩ = some (.int .i64 0) := by (repeat (first | assumption | (with_reducible refine memLater ((Below.refl _ _).alloc (Nat.le_refl _) _) ?_) | (with_reducible refine memLater ((Below.refl _ _).drew) ?_) | (with_reducible refine memLater h4 ?_) | (with_reducible refine memLater h3 ?_) | (with_reducible refine memLater h2 ?_) | (with_reducible refine (memSet (by omega)).trans ?_)))
        go_wp2
      all_goals
        first
          | (refine bodyPost_ret (v := .tuple #[.agg #[.int .i64 0, .int .i64 0], .bool false]) (by simp [results, Tryz.results206, go_sem, z0, z1]) rfl ⟨rfl, ?_⟩ <;> repeat (with_reducible first | exact Below.refl _ _ | refine b_s ?_ _ | refine b_a ?_ _ | refine Below.drew ?_ | refine below_drewN ?_ _ | refine b_t ?_ h4 | refine b_t ?_ h3 | refine b_t ?_ h2 | refine b_t ?_ h1))
    · go_enter Tryz.func206, Tryz.ntmps206
      go_wp2_with fail
      refine (HL.out _).mono ?_
      rintro e w1 ⟨rfl, h1⟩
      obtain ⟨hc1, hf1⟩ := bcell h1
      have hz1 := h1.size
      try simp at hz1
      have hb1_0 := fun o => hc1 (w.heap.size) o (by first | omega | (simp <;> omega))
      have fb1_0 := fun o => hf1 (w.heap.size) o (by first | omega | (simp <;> omega))
      have hg1_0 : w.heap.size < w1.heap.size := (by omega)
      have hh1_0 : w.heap.size < w1.heap.size + 1 := (by omega)
      have hb1_1 := fun o => hc1 (w.heap.size + 1) o (by first | omega | (simp <;> omega))
      have fb1_1 := fun o => hf1 (w.heap.size + 1) o (by first | omega | (simp <;> omega))
      have hg1_1 : w.heap.size + 1 < w1.heap.size := (by omega)
      have hh1_1 : w.heap.size + 1 < w1.heap.size + 1 := (by omega)
      have s0 : (w1).cell? ⟨w.heap.size, 0, none⟩ = some (.string s) := by rw [hb1_0]; simp
      have s1 : (w1).cell? ⟨w.heap.size, 1, none⟩ = some (.int .i64 p) := by rw [hb1_0]; simp
      have s2 : (w1).cell? ⟨w.heap.size, 2, none⟩ = some (.int .i64 n) := by rw [hb1_0]; simp
      have s3 : (w1).cell? ⟨w.heap.size, 3, none⟩ = some (.bool v) := by rw [hb1_0]; simp
      have s4 : (w1).cell? ⟨w.heap.size, 4, none⟩ = some (.bool c) := by rw [hb1_0]; simp
      have b0 : w1.cell? ⟨w.heap.size + 1, 0, none⟩ = some (.int .i64 0) := by rw [hb1_1]; simp
      have b1 : w1.cell? ⟨w.heap.size + 1, 1, none⟩ = some (.int .i64 0) := by rw [hb1_1]; simp
      have ne1 : ¬ w1.heap.size = w.heap.size := (by omega)
      have ne2 : ¬ w.heap.size = w1.heap.size := (by omega)
      have t0 : (w1.alloc (.cells #[.int .i64 B, .int .i64 F] 128)).cell? ⟨w1.heap.size, 0, none⟩ = some (.int .i64 B) := by simp
      have t1 : (w1.alloc (.cells #[.int .i64 B, .int .i64 F] 128)).cell? ⟨w1.heap.size, 1, none⟩ = some (.int .i64 F) := by simp
      go_wp2_with fail
      go_region_held3 (fun ww => ww.cell? ⟨w.heap.size, 0, none⟩ = some (.string s) ∧ ww.cell? ⟨w.heap.size, 1, none⟩ = some (.int .i64 p) ∧ ww.cell? ⟨w.heap.size, 2, none⟩ = some (.int .i64 n) ∧ ww.cell? ⟨w.heap.size, 3, none⟩ = some (.bool v) ∧ ww.cell? ⟨w.heap.size, 4, none⟩ = some (.bool c) ∧ ww.cell? ⟨w1.heap.size, 0, none⟩ = some (.int .i64 B) ∧ ww.cell? ⟨w1.heap.size, 1, none⟩ = some (.int .i64 F)) ((refine ⟨?_, ?_, ?_, ?_, ?_, ?_, ?_⟩ <;> (first | (go_simp; done) | (repeat (first | assumption | (with_reducible refine memLater ((Below.refl _ _).alloc (Nat.le_refl _) _) ?_) | (with_reducible refine memLater ((Below.refl _ _).drew) ?_) | (with_reducible refine memLater h2 ?_) | (with_reducible refine memLater h3 ?_) | (with_reducible refine (memSet (by omega)).trans ?_)))))) (first | (go_at_call 241; refine (HN.out _).mono ?_; rintro r2 w2 ⟨rfl, h2⟩; obtain ⟨hc2, hf2⟩ := bcell h2; have hz2 := h2.size; (try simp at hz2); (try have hl2_0 : w.heap.size < w2.heap.size := (by omega)); (try have hk2_0 : w.heap.size < w2.heap.size + 1 := (by omega)); (try have hl2_1 : w1.heap.size < w2.heap.size := (by omega)); (try have hk2_1 : w1.heap.size < w2.heap.size + 1 := (by omega)); have hb2_0 := fun o => hc2 (w.heap.size + 1) o (by first | omega | (simp <;> omega)); have fb2_0 := fun o => hf2 (w.heap.size + 1) o (by first | omega | (simp <;> omega)); have hb2_1 := fun o => hc2 (w1.heap.size) o (by first | omega | (simp <;> omega)); have fb2_1 := fun o => hf2 (w1.heap.size) o (by first | omega | (simp <;> omega)); have hb2_2 := fun o => hc2 (w.heap.size) o (by first | omega | (simp <;> omega)); have fb2_2 := fun o => hf2 (w.heap.size) o (by first | omega | (simp <;> omega)); (try have hg2_0 : w.heap.size + 1 < w2.heap.size := (by omega)); (try have hh2_0 : w.heap.size + 1 < w2.heap.size + 1 := (by omega)); (try have hg2_1 : w1.heap.size < w2.heap.size := (by omega)); (try have hh2_1 : w1.heap.size < w2.heap.size + 1 := (by omega)); (try have hg2_2 : w.heap.size < w2.heap.size := (by omega)); (try have hh2_2 : w.heap.size < w2.heap.size + 1 := (by omega)); (try have hg2_3 : w1.heap.size + 1 < w2.heap.size := (by omega)); (try have hh2_3 : w1.heap.size + 1 < w2.heap.size + 1 := (by omega)); (try have hg2_4 : w2.heap.size < w2.heap.size := (by omega)); (try have hh2_4 : w2.heap.size < w2.heap.size + 1 := (by omega))) | (go_at_call 180; refine (HD.out _).mono ?_; rintro r3 w3 ⟨rfl, h3⟩; obtain ⟨hc3, hf3⟩ := bcell h3; have hz3 := h3.size; (try simp at hz3); (try have hl3_0 : w.heap.size < w3.heap.size := (by omega)); (try have hk3_0 : w.heap.size < w3.heap.size + 1 := (by omega)); (try have hl3_1 : w1.heap.size < w3.heap.size := (by omega)); (try have hk3_1 : w1.heap.size < w3.heap.size + 1 := (by omega)); have hb3_0 := fun o => hc3 (w.heap.size + 1) o (by first | omega | (simp <;> omega)); have fb3_0 := fun o => hf3 (w.heap.size + 1) o (by first | omega | (simp <;> omega)); have hb3_1 := fun o => hc3 (w1.heap.size) o (by first | omega | (simp <;> omega)); have fb3_1 := fun o => hf3 (w1.heap.size) o (by first | omega | (simp <;> omega)); have hb3_2 := fun o => hc3 (w.heap.size) o (by first | omega | (simp <;> omega)); have fb3_2 := fun o => hf3 (w.heap.size) o (by first | omega | (simp <;> omega)); (try have hg3_0 : w.heap.size + 1 < w3.heap.size := (by omega)); (try have hh3_0 : w.heap.size + 1 < w3.heap.size + 1 := (by omega)); (try have hg3_1 : w1.heap.size < w3.heap.size := (by omega)); (try have hh3_1 : w1.heap.size < w3.heap.size + 1 := (by omega)); (try have hg3_2 : w.heap.size < w3.heap.size := (by omega)); (try have hh3_2 : w.heap.size < w3.heap.size + 1 := (by omega)); (try have hg3_3 : w1.heap.size + 1 < w3.heap.size := (by omega)); (try have hh3_3 : w1.heap.size + 1 < w3.heap.size + 1 := (by omega)); (try have hg3_4 : w2.heap.size < w3.heap.size := (by omega)); (try have hh3_4 : w2.heap.size < w3.heap.size + 1 := (by omega))))
      all_goals
        go_wp2_with fail
        refine (HN.out _).mono ?_
        rintro e w4 ⟨rfl, h4⟩
        obtain ⟨hc4, hf4⟩ := bcell h4
        have hz4 := h4.size
        try simp at hz4
        have hb4_0 := fun o => hc4 (w.heap.size + 1) o (by first | omega | (simp <;> omega))
        have fb4_0 := fun o => hf4 (w.heap.size + 1) o (by first | omega | (simp <;> omega))
        have hg4_0 : w.heap.size + 1 < w4.heap.size := (by omega)
        have hh4_0 : w.heap.size + 1 < w4.heap.size + 1 := (by omega)
        have hb4_1 := fun o => hc4 (w1.heap.size) o (by first | omega | (simp <;> omega))
        have fb4_1 := fun o => hf4 (w1.heap.size) o (by first | omega | (simp <;> omega))
        have hg4_1 : w1.heap.size < w4.heap.size := (by omega)
        have hh4_1 : w1.heap.size < w4.heap.size + 1 := (by omega)
        have hb4_2 := fun o => hc4 (w.heap.size) o (by first | omega | (simp <;> omega))
        have fb4_2 := fun o => hf4 (w.heap.size) o (by first | omega | (simp <;> omega))
        have hg4_2 : w.heap.size < w4.heap.size := (by omega)
        have hh4_2 : w.heap.size < w4.heap.size + 1 := (by omega)
        (try have q1 : w1.heap.size + 1 < w4.heap.size := (by omega))
        (try have q2 : w2.heap.size < w4.heap.size := (by omega))
        (try have q3 : w3.heap.size < w4.heap.size := (by omega))
        have z0 : (w4).cell? ⟨w.heap.size + 1, 0, none⟩ = some (.int .i64 0) := by (repeat (first | assumption | (with_reducible refine memLater ((Below.refl _ _).alloc (Nat.le_refl _) _) ?_) | (with_reducible refine memLater ((Below.refl _ _).drew) ?_) | (with_reducible refine memLater h4 ?_) | (with_reducible refine memLater h3 ?_) | (with_reducible refine memLater h2 ?_) | (with_reducible refine (memSet (by omega)).trans ?_)))
        have z1 : (w4).cell? ⟨w.heap.size + 1, 1, none⟩ = some (.int .i64 0) := by (repeat (first | assumption | (with_reducible refine memLater ((Below.refl _ _).alloc (Nat.le_refl _) _) ?_) | (with_reducible refine memLater ((Below.refl _ _).drew) ?_) | (with_reducible refine memLater h4 ?_) | (with_reducible refine memLater h3 ?_) | (with_reducible refine memLater h2 ?_) | (with_reducible refine (memSet (by omega)).trans ?_)))
        go_wp2
      all_goals
        first
          | (refine bodyPost_ret (v := .tuple #[.agg #[.int .i64 0, .int .i64 0], .bool false]) (by simp [results, Tryz.results206, go_sem, z0, z1]) rfl ⟨rfl, ?_⟩ <;> repeat (with_reducible first | exact Below.refl _ _ | refine b_s ?_ _ | refine b_a ?_ _ | refine Below.drew ?_ | refine below_drewN ?_ _ | refine b_t ?_ h4 | refine b_t ?_ h3 | refine b_t ?_ h2 | refine b_t ?_ h1))
  · rw [if_neg hG] at HZ
    rw [HZ.out, wayX_f, wayK_f, wayZ_f]
    clear HZ
    have hbe : ((G : Int) < (N : Int)) = False := by simp; omega
    rcases hk with ⟨rfl, rfl⟩ | ⟨rfl, rfl⟩
    · go_enter Tryz.func206, Tryz.ntmps206
      go_wp2_with fail
      refine (HL.out _).mono ?_
      rintro e w1 ⟨rfl, h1⟩
      obtain ⟨hc1, hf1⟩ := bcell h1
      have hz1 := h1.size
      try simp at hz1
      have hb1_0 := fun o => hc1 (w.heap.size) o (by first | omega | (simp <;> omega))
      have fb1_0 := fun o => hf1 (w.heap.size) o (by first | omega | (simp <;> omega))
      have hg1_0 : w.heap.size < w1.heap.size := (by omega)
      have hh1_0 : w.heap.size < w1.heap.size + 1 := (by omega)
      have hb1_1 := fun o => hc1 (w.heap.size + 1) o (by first | omega | (simp <;> omega))
      have fb1_1 := fun o => hf1 (w.heap.size + 1) o (by first | omega | (simp <;> omega))
      have hg1_1 : w.heap.size + 1 < w1.heap.size := (by omega)
      have hh1_1 : w.heap.size + 1 < w1.heap.size + 1 := (by omega)
      have s0 : (w1).cell? ⟨w.heap.size, 0, none⟩ = some (.string s) := by rw [hb1_0]; simp
      have s1 : (w1).cell? ⟨w.heap.size, 1, none⟩ = some (.int .i64 p) := by rw [hb1_0]; simp
      have s2 : (w1).cell? ⟨w.heap.size, 2, none⟩ = some (.int .i64 n) := by rw [hb1_0]; simp
      have s3 : (w1).cell? ⟨w.heap.size, 3, none⟩ = some (.bool v) := by rw [hb1_0]; simp
      have s4 : (w1).cell? ⟨w.heap.size, 4, none⟩ = some (.bool c) := by rw [hb1_0]; simp
      have b0 : w1.cell? ⟨w.heap.size + 1, 0, none⟩ = some (.int .i64 0) := by rw [hb1_1]; simp
      have b1 : w1.cell? ⟨w.heap.size + 1, 1, none⟩ = some (.int .i64 0) := by rw [hb1_1]; simp
      have ne1 : ¬ w1.heap.size = w.heap.size := (by omega)
      have ne2 : ¬ w.heap.size = w1.heap.size := (by omega)
      have t0 : (w1.alloc (.cells #[.int .i64 B, .int .i64 F] 128)).cell? ⟨w1.heap.size, 0, none⟩ = some (.int .i64 B) := by simp
      have t1 : (w1.alloc (.cells #[.int .i64 B, .int .i64 F] 128)).cell? ⟨w1.heap.size, 1, none⟩ = some (.int .i64 F) := by simp
      go_wp2_with fail
      go_region_held3 (fun ww => ww.cell? ⟨w.heap.size, 0, none⟩ = some (.string s) ∧ ww.cell? ⟨w.heap.size, 1, none⟩ = some (.int .i64 p) ∧ ww.cell? ⟨w.heap.size, 2, none⟩ = some (.int .i64 n) ∧ ww.cell? ⟨w.heap.size, 3, none⟩ = some (.bool v) ∧ ww.cell? ⟨w.heap.size, 4, none⟩ = some (.bool c) ∧ ww.cell? ⟨w1.heap.size, 0, none⟩ = some (.int .i64 B) ∧ ww.cell? ⟨w1.heap.size, 1, none⟩ = some (.int .i64 F)) ((refine ⟨?_, ?_, ?_, ?_, ?_, ?_, ?_⟩ <;> (first | (go_simp; done) | (repeat (first | assumption | (with_reducible refine memLater ((Below.refl _ _).alloc (Nat.le_refl _) _) ?_) | (with_reducible refine memLater ((Below.refl _ _).drew) ?_) | (with_reducible refine memLater h2 ?_) | (with_reducible refine memLater h3 ?_) | (with_reducible refine (memSet (by omega)).trans ?_)))))) (first | (go_at_call 241; refine (HN.out _).mono ?_; rintro r2 w2 ⟨rfl, h2⟩; obtain ⟨hc2, hf2⟩ := bcell h2; have hz2 := h2.size; (try simp at hz2); (try have hl2_0 : w.heap.size < w2.heap.size := (by omega)); (try have hk2_0 : w.heap.size < w2.heap.size + 1 := (by omega)); (try have hl2_1 : w1.heap.size < w2.heap.size := (by omega)); (try have hk2_1 : w1.heap.size < w2.heap.size + 1 := (by omega)); have hb2_0 := fun o => hc2 (w.heap.size + 1) o (by first | omega | (simp <;> omega)); have fb2_0 := fun o => hf2 (w.heap.size + 1) o (by first | omega | (simp <;> omega)); have hb2_1 := fun o => hc2 (w1.heap.size) o (by first | omega | (simp <;> omega)); have fb2_1 := fun o => hf2 (w1.heap.size) o (by first | omega | (simp <;> omega)); have hb2_2 := fun o => hc2 (w.heap.size) o (by first | omega | (simp <;> omega)); have fb2_2 := fun o => hf2 (w.heap.size) o (by first | omega | (simp <;> omega)); (try have hg2_0 : w.heap.size + 1 < w2.heap.size := (by omega)); (try have hh2_0 : w.heap.size + 1 < w2.heap.size + 1 := (by omega)); (try have hg2_1 : w1.heap.size < w2.heap.size := (by omega)); (try have hh2_1 : w1.heap.size < w2.heap.size + 1 := (by omega)); (try have hg2_2 : w.heap.size < w2.heap.size := (by omega)); (try have hh2_2 : w.heap.size < w2.heap.size + 1 := (by omega)); (try have hg2_3 : w1.heap.size + 1 < w2.heap.size := (by omega)); (try have hh2_3 : w1.heap.size + 1 < w2.heap.size + 1 := (by omega)); (try have hg2_4 : w2.heap.size < w2.heap.size := (by omega)); (try have hh2_4 : w2.heap.size < w2.heap.size + 1 := (by omega))) | (go_at_call 180; refine (HD.out _).mono ?_; rintro r3 w3 ⟨rfl, h3⟩; obtain ⟨hc3, hf3⟩ := bcell h3; have hz3 := h3.size; (try simp at hz3); (try have hl3_0 : w.heap.size < w3.heap.size := (by omega)); (try have hk3_0 : w.heap.size < w3.heap.size + 1 := (by omega)); (try have hl3_1 : w1.heap.size < w3.heap.size := (by omega)); (try have hk3_1 : w1.heap.size < w3.heap.size + 1 := (by omega)); have hb3_0 := fun o => hc3 (w.heap.size + 1) o (by first | omega | (simp <;> omega)); have fb3_0 := fun o => hf3 (w.heap.size + 1) o (by first | omega | (simp <;> omega)); have hb3_1 := fun o => hc3 (w1.heap.size) o (by first | omega | (simp <;> omega)); have fb3_1 := fun o => hf3 (w1.heap.size) o (by first | omega | (simp <;> omega)); have hb3_2 := fun o => hc3 (w.heap.size) o (by first | omega | (simp <;> omega)); have fb3_2 := fun o => hf3 (w.heap.size) o (by first | omega | (simp <;> omega)); (try have hg3_0 : w.heap.size + 1 < w3.heap.size := (by omega)); (try have hh3_0 : w.heap.size + 1 < w3.heap.size + 1 := (by omega)); (try have hg3_1 : w1.heap.size < w3.heap.size := (by omega)); (try have hh3_1 : w1.heap.size < w3.heap.size + 1 := (by omega)); (try have hg3_2 : w.heap.size < w3.heap.size := (by omega)); (try have hh3_2 : w.heap.size < w3.heap.size + 1 := (by omega)); (try have hg3_3 : w1.heap.size + 1 < w3.heap.size := (by omega)); (try have hh3_3 : w1.heap.size + 1 < w3.heap.size + 1 := (by omega)); (try have hg3_4 : w2.heap.size < w3.heap.size := (by omega)); (try have hh3_4 : w2.heap.size < w3.heap.size + 1 := (by omega))))
      all_goals
        go_wp2_with fail
        refine (HN.out _).mono ?_
        rintro e w4 ⟨rfl, h4⟩
        obtain ⟨hc4, hf4⟩ := bcell h4
        have hz4 := h4.size
        try simp at hz4
        have hb4_0 := fun o => hc4 (w.heap.size + 1) o (by first | omega | (simp <;> omega))
        have fb4_0 := fun o => hf4 (w.heap.size + 1) o (by first | omega | (simp <;> omega))
        have hg4_0 : w.heap.size + 1 < w4.heap.size := (by omega)
        have hh4_0 : w.heap.size + 1 < w4.heap.size + 1 := (by omega)
        have hb4_1 := fun o => hc4 (w1.heap.size) o (by first | omega | (simp <;> omega))
        have fb4_1 := fun o => hf4 (w1.heap.size) o (by first | omega | (simp <;> omega))
        have hg4_1 : w1.heap.size < w4.heap.size := (by omega)
        have hh4_1 : w1.heap.size < w4.heap.size + 1 := (by omega)
        have hb4_2 := fun o => hc4 (w.heap.size) o (by first | omega | (simp <;> omega))
        have fb4_2 := fun o => hf4 (w.heap.size) o (by first | omega | (simp <;> omega))
        have hg4_2 : w.heap.size < w4.heap.size := (by omega)
        have hh4_2 : w.heap.size < w4.heap.size + 1 := (by omega)
        (try have q1 : w1.heap.size + 1 < w4.heap.size := (by omega))
        (try have q2 : w2.heap.size < w4.heap.size := (by omega))
        (try have q3 : w3.heap.size < w4.heap.size := (by omega))
        go_wp2_with fail
        refine (HC.out _).mono ?_
        rintro e w5 ⟨rfl, h5⟩
        obtain ⟨hc5, hf5⟩ := bcell h5
        have hz5 := h5.size
        try simp at hz5
        have hb5_0 := fun o => hc5 (w.heap.size + 1) o (by first | omega | (simp <;> omega))
        have fb5_0 := fun o => hf5 (w.heap.size + 1) o (by first | omega | (simp <;> omega))
        have hg5_0 : w.heap.size + 1 < w5.heap.size := (by omega)
        have hh5_0 : w.heap.size + 1 < w5.heap.size + 1 := (by omega)
        have z0 : (w5).cell? ⟨w.heap.size + 1, 0, none⟩ = some (.int .i64 0) := by (repeat (first | assumption | (with_reducible refine memLater ((Below.refl _ _).alloc (Nat.le_refl _) _) ?_) | (with_reducible refine memLater ((Below.refl _ _).drew) ?_) | (with_reducible refine memLater h5 ?_) | (with_reducible refine memLater h4 ?_) | (with_reducible refine memLater h3 ?_) | (with_reducible refine memLater h2 ?_) | (with_reducible refine (memSet (by omega)).trans ?_)))
        have z1 : (w5).cell? ⟨w.heap.size + 1, 1, none⟩ = some (.int .i64 0) := by (repeat (first | assumption | (with_reducible refine memLater ((Below.refl _ _).alloc (Nat.le_refl _) _) ?_) | (with_reducible refine memLater ((Below.refl _ _).drew) ?_) | (with_reducible refine memLater h5 ?_) | (with_reducible refine memLater h4 ?_) | (with_reducible refine memLater h3 ?_) | (with_reducible refine memLater h2 ?_) | (with_reducible refine (memSet (by omega)).trans ?_)))
        go_wp2
      all_goals
        first
          | (refine bodyPost_ret (v := .tuple #[.agg #[.int .i64 X, .int .i64 2], .bool true]) (by simp [results, Tryz.results206, go_sem, z0, z1]) rfl ⟨rfl, ?_⟩ <;> repeat (with_reducible first | exact Below.refl _ _ | refine b_s ?_ _ | refine b_a ?_ _ | refine Below.drew ?_ | refine below_drewN ?_ _ | refine b_t ?_ h5 | refine b_t ?_ h4 | refine b_t ?_ h3 | refine b_t ?_ h2 | refine b_t ?_ h1))
    · go_enter Tryz.func206, Tryz.ntmps206
      go_wp2_with fail
      refine (HL.out _).mono ?_
      rintro e w1 ⟨rfl, h1⟩
      obtain ⟨hc1, hf1⟩ := bcell h1
      have hz1 := h1.size
      try simp at hz1
      have hb1_0 := fun o => hc1 (w.heap.size) o (by first | omega | (simp <;> omega))
      have fb1_0 := fun o => hf1 (w.heap.size) o (by first | omega | (simp <;> omega))
      have hg1_0 : w.heap.size < w1.heap.size := (by omega)
      have hh1_0 : w.heap.size < w1.heap.size + 1 := (by omega)
      have hb1_1 := fun o => hc1 (w.heap.size + 1) o (by first | omega | (simp <;> omega))
      have fb1_1 := fun o => hf1 (w.heap.size + 1) o (by first | omega | (simp <;> omega))
      have hg1_1 : w.heap.size + 1 < w1.heap.size := (by omega)
      have hh1_1 : w.heap.size + 1 < w1.heap.size + 1 := (by omega)
      have s0 : (w1).cell? ⟨w.heap.size, 0, none⟩ = some (.string s) := by rw [hb1_0]; simp
      have s1 : (w1).cell? ⟨w.heap.size, 1, none⟩ = some (.int .i64 p) := by rw [hb1_0]; simp
      have s2 : (w1).cell? ⟨w.heap.size, 2, none⟩ = some (.int .i64 n) := by rw [hb1_0]; simp
      have s3 : (w1).cell? ⟨w.heap.size, 3, none⟩ = some (.bool v) := by rw [hb1_0]; simp
      have s4 : (w1).cell? ⟨w.heap.size, 4, none⟩ = some (.bool c) := by rw [hb1_0]; simp
      have b0 : w1.cell? ⟨w.heap.size + 1, 0, none⟩ = some (.int .i64 0) := by rw [hb1_1]; simp
      have b1 : w1.cell? ⟨w.heap.size + 1, 1, none⟩ = some (.int .i64 0) := by rw [hb1_1]; simp
      have ne1 : ¬ w1.heap.size = w.heap.size := (by omega)
      have ne2 : ¬ w.heap.size = w1.heap.size := (by omega)
      have t0 : (w1.alloc (.cells #[.int .i64 B, .int .i64 F] 128)).cell? ⟨w1.heap.size, 0, none⟩ = some (.int .i64 B) := by simp
      have t1 : (w1.alloc (.cells #[.int .i64 B, .int .i64 F] 128)).cell? ⟨w1.heap.size, 1, none⟩ = some (.int .i64 F) := by simp
      go_wp2_with fail
      go_region_held3 (fun ww => ww.cell? ⟨w.heap.size, 0, none⟩ = some (.string s) ∧ ww.cell? ⟨w.heap.size, 1, none⟩ = some (.int .i64 p) ∧ ww.cell? ⟨w.heap.size, 2, none⟩ = some (.int .i64 n) ∧ ww.cell? ⟨w.heap.size, 3, none⟩ = some (.bool v) ∧ ww.cell? ⟨w.heap.size, 4, none⟩ = some (.bool c) ∧ ww.cell? ⟨w1.heap.size, 0, none⟩ = some (.int .i64 B) ∧ ww.cell? ⟨w1.heap.size, 1, none⟩ = some (.int .i64 F)) ((refine ⟨?_, ?_, ?_, ?_, ?_, ?_, ?_⟩ <;> (first | (go_simp; done) | (repeat (first | assumption | (with_reducible refine memLater ((Below.refl _ _).alloc (Nat.le_refl _) _) ?_) | (with_reducible refine memLater ((Below.refl _ _).drew) ?_) | (with_reducible refine memLater h2 ?_) | (with_reducible refine memLater h3 ?_) | (with_reducible refine (memSet (by omega)).trans ?_)))))) (first | (go_at_call 241; refine (HN.out _).mono ?_; rintro r2 w2 ⟨rfl, h2⟩; obtain ⟨hc2, hf2⟩ := bcell h2; have hz2 := h2.size; (try simp at hz2); (try have hl2_0 : w.heap.size < w2.heap.size := (by omega)); (try have hk2_0 : w.heap.size < w2.heap.size + 1 := (by omega)); (try have hl2_1 : w1.heap.size < w2.heap.size := (by omega)); (try have hk2_1 : w1.heap.size < w2.heap.size + 1 := (by omega)); have hb2_0 := fun o => hc2 (w.heap.size + 1) o (by first | omega | (simp <;> omega)); have fb2_0 := fun o => hf2 (w.heap.size + 1) o (by first | omega | (simp <;> omega)); have hb2_1 := fun o => hc2 (w1.heap.size) o (by first | omega | (simp <;> omega)); have fb2_1 := fun o => hf2 (w1.heap.size) o (by first | omega | (simp <;> omega)); have hb2_2 := fun o => hc2 (w.heap.size) o (by first | omega | (simp <;> omega)); have fb2_2 := fun o => hf2 (w.heap.size) o (by first | omega | (simp <;> omega)); (try have hg2_0 : w.heap.size + 1 < w2.heap.size := (by omega)); (try have hh2_0 : w.heap.size + 1 < w2.heap.size + 1 := (by omega)); (try have hg2_1 : w1.heap.size < w2.heap.size := (by omega)); (try have hh2_1 : w1.heap.size < w2.heap.size + 1 := (by omega)); (try have hg2_2 : w.heap.size < w2.heap.size := (by omega)); (try have hh2_2 : w.heap.size < w2.heap.size + 1 := (by omega)); (try have hg2_3 : w1.heap.size + 1 < w2.heap.size := (by omega)); (try have hh2_3 : w1.heap.size + 1 < w2.heap.size + 1 := (by omega)); (try have hg2_4 : w2.heap.size < w2.heap.size := (by omega)); (try have hh2_4 : w2.heap.size < w2.heap.size + 1 := (by omega))) | (go_at_call 180; refine (HD.out _).mono ?_; rintro r3 w3 ⟨rfl, h3⟩; obtain ⟨hc3, hf3⟩ := bcell h3; have hz3 := h3.size; (try simp at hz3); (try have hl3_0 : w.heap.size < w3.heap.size := (by omega)); (try have hk3_0 : w.heap.size < w3.heap.size + 1 := (by omega)); (try have hl3_1 : w1.heap.size < w3.heap.size := (by omega)); (try have hk3_1 : w1.heap.size < w3.heap.size + 1 := (by omega)); have hb3_0 := fun o => hc3 (w.heap.size + 1) o (by first | omega | (simp <;> omega)); have fb3_0 := fun o => hf3 (w.heap.size + 1) o (by first | omega | (simp <;> omega)); have hb3_1 := fun o => hc3 (w1.heap.size) o (by first | omega | (simp <;> omega)); have fb3_1 := fun o => hf3 (w1.heap.size) o (by first | omega | (simp <;> omega)); have hb3_2 := fun o => hc3 (w.heap.size) o (by first | omega | (simp <;> omega)); have fb3_2 := fun o => hf3 (w.heap.size) o (by first | omega | (simp <;> omega)); (try have hg3_0 : w.heap.size + 1 < w3.heap.size := (by omega)); (try have hh3_0 : w.heap.size + 1 < w3.heap.size + 1 := (by omega)); (try have hg3_1 : w1.heap.size < w3.heap.size := (by omega)); (try have hh3_1 : w1.heap.size < w3.heap.size + 1 := (by omega)); (try have hg3_2 : w.heap.size < w3.heap.size := (by omega)); (try have hh3_2 : w.heap.size < w3.heap.size + 1 := (by omega)); (try have hg3_3 : w1.heap.size + 1 < w3.heap.size := (by omega)); (try have hh3_3 : w1.heap.size + 1 < w3.heap.size + 1 := (by omega)); (try have hg3_4 : w2.heap.size < w3.heap.size := (by omega)); (try have hh3_4 : w2.heap.size < w3.heap.size + 1 := (by omega))))
      all_goals
        go_wp2_with fail
        refine (HN.out _).mono ?_
        rintro e w4 ⟨rfl, h4⟩
        obtain ⟨hc4, hf4⟩ := bcell h4
        have hz4 := h4.size
        try simp at hz4
        have hb4_0 := fun o => hc4 (w.heap.size + 1) o (by first | omega | (simp <;> omega))
        have fb4_0 := fun o => hf4 (w.heap.size + 1) o (by first | omega | (simp <;> omega))
        have hg4_0 : w.heap.size + 1 < w4.heap.size := (by omega)
        have hh4_0 : w.heap.size + 1 < w4.heap.size + 1 := (by omega)
        have hb4_1 := fun o => hc4 (w1.heap.size) o (by first | omega | (simp <;> omega))
        have fb4_1 := fun o => hf4 (w1.heap.size) o (by first | omega | (simp <;> omega))
        have hg4_1 : w1.heap.size < w4.heap.size := (by omega)
        have hh4_1 : w1.heap.size < w4.heap.size + 1 := (by omega)
        have hb4_2 := fun o => hc4 (w.heap.size) o (by first | omega | (simp <;> omega))
        have fb4_2 := fun o => hf4 (w.heap.size) o (by first | omega | (simp <;> omega))
        have hg4_2 : w.heap.size < w4.heap.size := (by omega)
        have hh4_2 : w.heap.size < w4.heap.size + 1 := (by omega)
        (try have q1 : w1.heap.size + 1 < w4.heap.size := (by omega))
        (try have q2 : w2.heap.size < w4.heap.size := (by omega))
        (try have q3 : w3.heap.size < w4.heap.size := (by omega))
        go_wp2_with fail
        refine (HC.out _).mono ?_
        rintro e w5 ⟨rfl, h5⟩
        obtain ⟨hc5, hf5⟩ := bcell h5
        have hz5 := h5.size
        try simp at hz5
        have hb5_0 := fun o => hc5 (w.heap.size + 1) o (by first | omega | (simp <;> omega))
        have fb5_0 := fun o => hf5 (w.heap.size + 1) o (by first | omega | (simp <;> omega))
        have hg5_0 : w.heap.size + 1 < w5.heap.size := (by omega)
        have hh5_0 : w.heap.size + 1 < w5.heap.size + 1 := (by omega)
        have z0 : (w5).cell? ⟨w.heap.size + 1, 0, none⟩ = some (.int .i64 0) := by (repeat (first | assumption | (with_reducible refine memLater ((Below.refl _ _).alloc (Nat.le_refl _) _) ?_) | (with_reducible refine memLater ((Below.refl _ _).drew) ?_) | (with_reducible refine memLater h5 ?_) | (with_reducible refine memLater h4 ?_) | (with_reducible refine memLater h3 ?_) | (with_reducible refine memLater h2 ?_) | (with_reducible refine (memSet (by omega)).trans ?_)))
        have z1 : (w5).cell? ⟨w.heap.size + 1, 1, none⟩ = some (.int .i64 0) := by (repeat (first | assumption | (with_reducible refine memLater ((Below.refl _ _).alloc (Nat.le_refl _) _) ?_) | (with_reducible refine memLater ((Below.refl _ _).drew) ?_) | (with_reducible refine memLater h5 ?_) | (with_reducible refine memLater h4 ?_) | (with_reducible refine memLater h3 ?_) | (with_reducible refine memLater h2 ?_) | (with_reducible refine (memSet (by omega)).trans ?_)))
        go_wp2
      all_goals
        first
          | (refine bodyPost_ret (v := .tuple #[.agg #[.int .i64 X, .int .i64 2], .bool true]) (by simp [results, Tryz.results206, go_sem, z0, z1]) rfl ⟨rfl, ?_⟩ <;> repeat (with_reducible first | exact Below.refl _ _ | refine b_s ?_ _ | refine b_a ?_ _ | refine Below.drew ?_ | refine below_drewN ?_ _ | refine b_t ?_ h5 | refine b_t ?_ h4 | refine b_t ?_ h3 | refine b_t ?_ h2 | refine b_t ?_ h1))
end Go.Proofs.YtlendfhehhacpaaGreat
