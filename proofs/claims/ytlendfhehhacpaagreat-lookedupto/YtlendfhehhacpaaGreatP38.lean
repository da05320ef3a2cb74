/- Joined of the texts ModesW3. -/
import Derived.Test.YtlendfhehhacpaaGreatP37
set_option linter.unusedVariables false
set_option linter.unusedSimpArgs false
set_option maxRecDepth 100000
set_option maxHeartbeats 8000000
namespace Go.Proofs.YtlendfhehhacpaaGreat
open Go.RowKit
theorem mMarked_bytes (r d : Nat) (p : Pg) (w : World) (h : RdAt w r d p) (hs : p.t.size ≤ 1000) (hl : p.pl ≤ p.t.size) (ha : p.anchor ≤ p.t.size) (hm : p.mode = 2) :
    Calls Tryz.prog 313 #[.agg #[.pointer (some ⟨r, 0, none⟩)]] w fun e w' => e = .returned (.agg #[.int .i64 ((min p.anchor p.pl : Nat) : Int), .int .i64 ((min (max p.anchor p.pl + 1) p.t.size : Nat) : Int), .bool false]) ∧ Below w.heap.size w w' := by
  generalize hI : min p.anchor p.pl = I
  generalize hJ : min (max p.anchor p.pl + 1) p.t.size = J
  have HE : Hid (∀ ww, Calls Tryz.prog 246 #[.string p.t] ww fun e w' => e = .returned (.int .i64 p.t.size) ∧ Below ww.heap.size ww w') := fun ww => Calls.mono (tEnd_any p.t ww) (fun _ _ ⟨a, b⟩ => ⟨a, by rw [b]; exact Below.refl _ _⟩)
  have H := h
  have r0 := h.bg.c0
  have d0 := h.dk.c0
  have d1 := h.dk.c1
  have d2 := h.dk.c2
  have d3 := h.dk.c3
  rw [hm] at d3
  have hld := h.dk.lt
  have hlr := h.bg.lt
  clear h hm
  have l1 : r < w.heap.size + 1 := by omega
  have l2 : d < w.heap.size + 1 := by omega
  rcases Nat.lt_trichotomy p.anchor p.pl with ho | ho | ho
  · have o1 : ((p.anchor : Nat) : Int) < ((p.pl : Nat) : Int) := by omega
    have o2 : ¬ ((p.pl : Nat) : Int) < ((p.anchor : Nat) : Int) := by omega
    have o3 : min ((p.anchor : Nat) : Int) ((p.pl : Nat) : Int) = ((p.anchor : Nat) : Int) := by omega
    have o4 : max ((p.anchor : Nat) : Int) ((p.pl : Nat) : Int) = ((p.pl : Nat) : Int) := by omega
    have o5 : IntKind.i64.wrap (((p.pl : Nat) : Int) + 1) = ((p.pl : Nat) : Int) + 1 := by rw [IntKind.wrap_i64]; omega
    by_cases hq : p.pl + 1 ≤ p.t.size
    · have o6 : ¬ ((p.t.size : Nat) : Int) < ((p.pl : Nat) : Int) + 1 := by omega
      go_enter Tryz.func313, Tryz.ntmps313
      have g0 : ((w.alloc (.cells #[.pointer (some ⟨r, 0, none⟩)] 81)).alloc (.cells #[.int .i64 0, .int .i64 0, .bool false] 186)).cell? ⟨w.heap.size, 0, none⟩ = some (.pointer (some ⟨r, 0, none⟩)) := by simp
      go_wp2_with fail
      go_region_held3 (fun ww => ww.cell? ⟨w.heap.size, 0, none⟩ = some (.pointer (some ⟨r, 0, none⟩)) ∧ ww.cell? ⟨r, 0, none⟩ = some (.pointer (some ⟨d, 0, none⟩)) ∧ ww.cell? ⟨d, 1, none⟩ = some (.int .i64 p.pl) ∧ ww.cell? ⟨d, 2, none⟩ = some (.int .i64 p.anchor)) ((refine ⟨?_, ?_, ?_, ?_⟩ <;> go_simp)) (fail)
      go_wp2_with fail
      refine (HE.out _).mono ?_
      rintro e w4 ⟨rfl, h4⟩
      obtain ⟨hc4, hf4⟩ := bcell h4
      have hz4 := h4.size
      try simp at hz4
      have hb4_0 := fun o => hc4 (w.heap.size + 1) o (by simp)
      go_wp2
      refine bodyPost_ret (v := .agg #[.int .i64 (p.anchor : Nat), .int .i64 ((p.pl : Int) + 1), .bool false]) (by simp [results, Tryz.results313, go_sem, hb4_0]) rfl ⟨by rw [show I = p.anchor by omega, show J = p.pl + 1 by omega] <;> rfl, ?_⟩
      repeat (with_reducible first | exact Below.refl _ _ | refine b_s ?_ _ | refine b_a ?_ _ | refine Below.drew ?_ | refine below_drewN ?_ _ | refine b_t ?_ h4)
      all_goals
        refine bodyPost_ret (v := .agg #[.int .i64 (p.anchor : Nat), .int .i64 ((p.pl : Int) + 1), .bool false]) (by simp [results, Tryz.results313, go_sem]) rfl ⟨by rw [show I = p.anchor by omega, show J = p.pl + 1 by omega] <;> rfl, ?_⟩
        repeat (with_reducible first | exact Below.refl _ _ | refine b_s ?_ _ | refine b_a ?_ _ | refine Below.drew ?_ | refine below_drewN ?_ _)
    · have o6 : ((p.t.size : Nat) : Int) < ((p.pl : Nat) : Int) + 1 := by omega
      go_enter Tryz.func313, Tryz.ntmps313
      have g0 : ((w.alloc (.cells #[.pointer (some ⟨r, 0, none⟩)] 81)).alloc (.cells #[.int .i64 0, .int .i64 0, .bool false] 186)).cell? ⟨w.heap.size, 0, none⟩ = some (.pointer (some ⟨r, 0, none⟩)) := by simp
      go_wp2_with fail
      go_region_held3 (fun ww => ww.cell? ⟨w.heap.size, 0, none⟩ = some (.pointer (some ⟨r, 0, none⟩)) ∧ ww.cell? ⟨r, 0, none⟩ = some (.pointer (some ⟨d, 0, none⟩)) ∧ ww.cell? ⟨d, 1, none⟩ = some (.int .i64 p.pl) ∧ ww.cell? ⟨d, 2, none⟩ = some (.int .i64 p.anchor)) ((refine ⟨?_, ?_, ?_, ?_⟩ <;> go_simp)) (fail)
      go_wp2_with fail
      refine (HE.out _).mono ?_
      rintro e w4 ⟨rfl, h4⟩
      obtain ⟨hc4, hf4⟩ := bcell h4
      have hz4 := h4.size
      try simp at hz4
      have hb4_0 := fun o => hc4 (w.heap.size + 1) o (by simp)
      go_wp2
      refine bodyPost_ret (v := .agg #[.int .i64 (p.anchor : Nat), .int .i64 (p.t.size : Nat), .bool false]) (by simp [results, Tryz.results313, go_sem, hb4_0]) rfl ⟨by rw [show I = p.anchor by omega, show J = p.t.size by omega] <;> rfl, ?_⟩
      repeat (with_reducible first | exact Below.refl _ _ | refine b_s ?_ _ | refine b_a ?_ _ | refine Below.drew ?_ | refine below_drewN ?_ _ | refine b_t ?_ h4)
      all_goals
        refine bodyPost_ret (v := .agg #[.int .i64 (p.anchor : Nat), .int .i64 (p.t.size : Nat), .bool false]) (by simp [results, Tryz.results313, go_sem]) rfl ⟨by rw [show I = p.anchor by omega, show J = p.t.size by omega] <;> rfl, ?_⟩
        repeat (with_reducible first | exact Below.refl _ _ | refine b_s ?_ _ | refine b_a ?_ _ | refine Below.drew ?_ | refine below_drewN ?_ _)
  · rw [ho] at d2
    have o3 : min ((p.pl : Nat) : Int) ((p.pl : Nat) : Int) = ((p.pl : Nat) : Int) := by omega
    have o4 : max ((p.pl : Nat) : Int) ((p.pl : Nat) : Int) = ((p.pl : Nat) : Int) := by omega
    have o5 : IntKind.i64.wrap (((p.pl : Nat) : Int) + 1) = ((p.pl : Nat) : Int) + 1 := by rw [IntKind.wrap_i64]; omega
    by_cases hq : p.pl + 1 ≤ p.t.size
    · have o6 : ¬ ((p.t.size : Nat) : Int) < ((p.pl : Nat) : Int) + 1 := by omega
      go_enter Tryz.func313, Tryz.ntmps313
      have g0 : ((w.alloc (.cells #[.pointer (some ⟨r, 0, none⟩)] 81)).alloc (.cells #[.int .i64 0, .int .i64 0, .bool false] 186)).cell? ⟨w.heap.size, 0, none⟩ = some (.pointer (some ⟨r, 0, none⟩)) := by simp
      go_wp2_with fail
      go_region_held3 (fun ww => ww.cell? ⟨w.heap.size, 0, none⟩ = some (.pointer (some ⟨r, 0, none⟩)) ∧ ww.cell? ⟨r, 0, none⟩ = some (.pointer (some ⟨d, 0, none⟩)) ∧ ww.cell? ⟨d, 1, none⟩ = some (.int .i64 p.pl) ∧ ww.cell? ⟨d, 2, none⟩ = some (.int .i64 p.pl)) ((refine ⟨?_, ?_, ?_, ?_⟩ <;> go_simp)) (fail)
      go_wp2_with fail
      refine (HE.out _).mono ?_
      rintro e w4 ⟨rfl, h4⟩
      obtain ⟨hc4, hf4⟩ := bcell h4
      have hz4 := h4.size
      try simp at hz4
      have hb4_0 := fun o => hc4 (w.heap.size + 1) o (by simp)
      go_wp2
      refine bodyPost_ret (v := .agg #[.int .i64 (p.pl : Nat), .int .i64 ((p.pl : Int) + 1), .bool false]) (by simp [results, Tryz.results313, go_sem, hb4_0]) rfl ⟨by rw [show I = p.pl by omega, show J = p.pl + 1 by omega] <;> rfl, ?_⟩
      repeat (with_reducible first | exact Below.refl _ _ | refine b_s ?_ _ | refine b_a ?_ _ | refine Below.drew ?_ | refine below_drewN ?_ _ | refine b_t ?_ h4)
      all_goals
        refine bodyPost_ret (v := .agg #[.int .i64 (p.pl : Nat), .int .i64 ((p.pl : Int) + 1), .bool false]) (by simp [results, Tryz.results313, go_sem]) rfl ⟨by rw [show I = p.pl by omega, show J = p.pl + 1 by omega] <;> rfl, ?_⟩
        repeat (with_reducible first | exact Below.refl _ _ | refine b_s ?_ _ | refine b_a ?_ _ | refine Below.drew ?_ | refine below_drewN ?_ _)
    · have o6 : ((p.t.size : Nat) : Int) < ((p.pl : Nat) : Int) + 1 := by omega
      go_enter Tryz.func313, Tryz.ntmps313
      have g0 : ((w.alloc (.cells #[.pointer (some ⟨r, 0, none⟩)] 81)).alloc (.cells #[.int .i64 0, .int .i64 0, .bool false] 186)).cell? ⟨w.heap.size, 0, none⟩ = some (.pointer (some ⟨r, 0, none⟩)) := by simp
      go_wp2_with fail
      go_region_held3 (fun ww => ww.cell? ⟨w.heap.size, 0, none⟩ = some (.pointer (some ⟨r, 0, none⟩)) ∧ ww.cell? ⟨r, 0, none⟩ = some (.pointer (some ⟨d, 0, none⟩)) ∧ ww.cell? ⟨d, 1, none⟩ = some (.int .i64 p.pl) ∧ ww.cell? ⟨d, 2, none⟩ = some (.int .i64 p.pl)) ((refine ⟨?_, ?_, ?_, ?_⟩ <;> go_simp)) (fail)
      go_wp2_with fail
      refine (HE.out _).mono ?_
      rintro e w4 ⟨rfl, h4⟩
      obtain ⟨hc4, hf4⟩ := bcell h4
      have hz4 := h4.size
      try simp at hz4
      have hb4_0 := fun o => hc4 (w.heap.size + 1) o (by simp)
      go_wp2
      refine bodyPost_ret (v := .agg #[.int .i64 (p.pl : Nat), .int .i64 (p.t.size : Nat), .bool false]) (by simp [results, Tryz.results313, go_sem, hb4_0]) rfl ⟨by rw [show I = p.pl by omega, show J = p.t.size by omega] <;> rfl, ?_⟩
      repeat (with_reducible first | exact Below.refl _ _ | refine b_s ?_ _ | refine b_a ?_ _ | refine Below.drew ?_ | refine below_drewN ?_ _ | refine b_t ?_ h4)
      all_goals
        refine bodyPost_ret (v := .agg #[.int .i64 (p.pl : Nat), .int .i64 (p.t.size : Nat), .bool false]) (by simp [results, Tryz.results313, go_sem]) rfl ⟨by rw [show I = p.pl by omega, show J = p.t.size by omega] <;> rfl, ?_⟩
        repeat (with_reducible first | exact Below.refl _ _ | refine b_s ?_ _ | refine b_a ?_ _ | refine Below.drew ?_ | refine below_drewN ?_ _)
  · have o1 : ¬ ((p.anchor : Nat) : Int) < ((p.pl : Nat) : Int) := by omega
    have o2 : ((p.pl : Nat) : Int) < ((p.anchor : Nat) : Int) := by omega
    have o3 : min ((p.anchor : Nat) : Int) ((p.pl : Nat) : Int) = ((p.pl : Nat) : Int) := by omega
    have o4 : max ((p.anchor : Nat) : Int) ((p.pl : Nat) : Int) = ((p.anchor : Nat) : Int) := by omega
    have o5 : IntKind.i64.wrap (((p.anchor : Nat) : Int) + 1) = ((p.anchor : Nat) : Int) + 1 := by rw [IntKind.wrap_i64]; omega
    by_cases hq : p.anchor + 1 ≤ p.t.size
    · have o6 : ¬ ((p.t.size : Nat) : Int) < ((p.anchor : Nat) : Int) + 1 := by omega
      go_enter Tryz.func313, Tryz.ntmps313
      have g0 : ((w.alloc (.cells #[.pointer (some ⟨r, 0, none⟩)] 81)).alloc (.cells #[.int .i64 0, .int .i64 0, .bool false] 186)).cell? ⟨w.heap.size, 0, none⟩ = some (.pointer (some ⟨r, 0, none⟩)) := by simp
      go_wp2_with fail
      go_region_held3 (fun ww => ww.cell? ⟨w.heap.size, 0, none⟩ = some (.pointer (some ⟨r, 0, none⟩)) ∧ ww.cell? ⟨r, 0, none⟩ = some (.pointer (some ⟨d, 0, none⟩)) ∧ ww.cell? ⟨d, 1, none⟩ = some (.int .i64 p.pl) ∧ ww.cell? ⟨d, 2, none⟩ = some (.int .i64 p.anchor)) ((refine ⟨?_, ?_, ?_, ?_⟩ <;> go_simp)) (fail)
      go_wp2_with fail
      refine (HE.out _).mono ?_
      rintro e w4 ⟨rfl, h4⟩
      obtain ⟨hc4, hf4⟩ := bcell h4
      have hz4 := h4.size
      try simp at hz4
      have hb4_0 := fun o => hc4 (w.heap.size + 1) o (by simp)
      go_wp2
      refine bodyPost_ret (v := .agg #[.int .i64 (p.pl : Nat), .int .i64 ((p.anchor : Int) + 1), .bool false]) (by simp [results, Tryz.results313, go_sem, hb4_0]) rfl ⟨by rw [show I = p.pl by omega, show J = p.anchor + 1 by omega] <;> rfl, ?_⟩
      repeat (with_reducible first | exact Below.refl _ _ | refine b_s ?_ _ | refine b_a ?_ _ | refine Below.drew ?_ | refine below_drewN ?_ _ | refine b_t ?_ h4)
      all_goals
        refine bodyPost_ret (v := .agg #[.int .i64 (p.pl : Nat), .int .i64 ((p.anchor : Int) + 1), .bool false]) (by simp [results, Tryz.results313, go_sem]) rfl ⟨by rw [show I = p.pl by omega, show J = p.anchor + 1 by omega] <;> rfl, ?_⟩
        repeat (with_reducible first | exact Below.refl _ _ | refine b_s ?_ _ | refine b_a ?_ _ | refine Below.drew ?_ | refine below_drewN ?_ _)
    · have o6 : ((p.t.size : Nat) : Int) < ((p.anchor : Nat) : Int) + 1 := by omega
      go_enter Tryz.func313, Tryz.ntmps313
      have g0 : ((w.alloc (.cells #[.pointer (some ⟨r, 0, none⟩)] 81)).alloc (.cells #[.int .i64 0, .int .i64 0, .bool false] 186)).cell? ⟨w.heap.size, 0, none⟩ = some (.pointer (some ⟨r, 0, none⟩)) := by simp
      go_wp2_with fail
      go_region_held3 (fun ww => ww.cell? ⟨w.heap.size, 0, none⟩ = some (.pointer (some ⟨r, 0, none⟩)) ∧ ww.cell? ⟨r, 0, none⟩ = some (.pointer (some ⟨d, 0, none⟩)) ∧ ww.cell? ⟨d, 1, none⟩ = some (.int .i64 p.pl) ∧ ww.cell? ⟨d, 2, none⟩ = some (.int .i64 p.anchor)) ((refine ⟨?_, ?_, ?_, ?_⟩ <;> go_simp)) (fail)
      go_wp2_with fail
      refine (HE.out _).mono ?_
      rintro e w4 ⟨rfl, h4⟩
      obtain ⟨hc4, hf4⟩ := bcell h4
      have hz4 := h4.size
      try simp at hz4
      have hb4_0 := fun o => hc4 (w.heap.size + 1) o (by simp)
      go_wp2
      refine bodyPost_ret (v := .agg #[.int .i64 (p.pl : Nat), .int .i64 (p.t.size : Nat), .bool false]) (by simp [results, Tryz.results313, go_sem, hb4_0]) rfl ⟨by rw [show I = p.pl by omega, show J = p.t.size by omega] <;> rfl, ?_⟩
      repeat (with_reducible first | exact Below.refl _ _ | refine b_s ?_ _ | refine b_a ?_ _ | refine Below.drew ?_ | refine below_drewN ?_ _ | refine b_t ?_ h4)
      all_goals
        refine bodyPost_ret (v := .agg #[.int .i64 (p.pl : Nat), .int .i64 (p.t.size : Nat), .bool false]) (by simp [results, Tryz.results313, go_sem]) rfl ⟨by rw [show I = p.pl by omega, show J = p.t.size by omega] <;> rfl, ?_⟩
        repeat (with_reducible first | exact Below.refl _ _ | refine b_s ?_ _ | refine b_a ?_ _ | refine Below.drew ?_ | refine below_drewN ?_ _)
end Go.Proofs.YtlendfhehhacpaaGreat
