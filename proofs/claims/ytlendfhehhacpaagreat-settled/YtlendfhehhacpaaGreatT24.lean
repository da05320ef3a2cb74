/- A part. -/
import Derived.Test.YtlendfhehhacpaaGreatT16
set_option linter.unusedVariables false
set_option linter.unusedSimpArgs false
set_option maxRecDepth 100000
set_option maxHeartbeats 8000000
namespace Go.Proofs.YtlendfhehhacpaaGreat
open Go.RowKit Nib Tryz
theorem mMarked_bytes (r d : Nat) (p : Pg) (w : World) (h : RdAt w r d p) (hs : p.t.size ≤ 1000) (hl : p.pl ≤ p.t.size) (ha : p.anchor ≤ p.t.size) (hm : p.mode = 2) :
  qC 313 #[.agg #[.pointer (some ⟨r, 0, none⟩)]] w (.agg #[.int .i64 ((min p.anchor p.pl : Nat) : Int), .int .i64 ((min (max p.anchor p.pl + 1) p.t.size : Nat) : Int), .bool false]) := by
 generalize hI : min p.anchor p.pl = I
 generalize hJ : min (max p.anchor p.pl + 1) p.t.size = J
 have HE : qH 246 #[.string p.t] (.int .i64 p.t.size) := fun ww => Calls.mono (tEnd_any p.t ww) (fun _ _ ⟨a, b⟩ => ⟨a, by rw [b]; exact Below.refl _ _⟩)
 have H := h
 have r0 := h.bg.c0
 have d0 := h.dk.c0
 have d1 := h.dk.c1
 have d2 := h.dk.c2
 have d3 := h.dk.c3
 rw [hm] at d3
 have hld := h.dk.lt
 have hlr := h.bg.lt
 clear h hm
 have l1 : r < w.heap.size + 1 := by omega
 have l2 : d < w.heap.size + 1 := by omega
 rcases Nat.lt_trichotomy p.anchor p.pl with ho | ho | ho
 ·have o1 : ((p.anchor : Nat) : Int) < ((p.pl : Nat) : Int) := by omega
  have o2 : ¬ ((p.pl : Nat) : Int) < ((p.anchor : Nat) : Int) := by omega
  have o3 : min ((p.anchor : Nat) : Int) ((p.pl : Nat) : Int) = ((p.anchor : Nat) : Int) := by omega
  have o4 : max ((p.anchor : Nat) : Int) ((p.pl : Nat) : Int) = ((p.pl : Nat) : Int) := by omega
  have o5 : IntKind.i64.wrap (((p.pl : Nat) : Int) + 1) = ((p.pl : Nat) : Int) + 1 := by rw [IntKind.wrap_i64]; omega
  by_cases hq : p.pl + 1 ≤ p.t.size
  ·have o6 : ¬ ((p.t.size : Nat) : Int) < ((p.pl : Nat) : Int) + 1 := by omega
   go_enter func313, ntmps313
   have g0 : ((w.alloc (.cells #[.pointer (some ⟨r, 0, none⟩)] 81)).alloc (.cells #[.int .i64 0, .int .i64 0, .bool false] 186)).cell? ⟨w.heap.size, 0, none⟩ = some (.pointer (some ⟨r, 0, none⟩)) := by simp
   go_wp2_with fail
   go_region_held3 (fun ww => ww.cell? ⟨w.heap.size, 0, none⟩ = some (.pointer (some ⟨r, 0, none⟩)) ∧ ww.cell? ⟨r, 0, none⟩ = some (.pointer (some ⟨d, 0, none⟩)) ∧ ww.cell? ⟨d, 1, none⟩ = some (.int .i64 p.pl) ∧ ww.cell? ⟨d, 2, none⟩ = some (.int .i64 p.anchor)) (exact qK) (fail)
   go_wp2_with fail
   refine (HE.out _).mono ?_
   rintro e w4 ⟨rfl, h4⟩
   obtain ⟨hc4, hf4, hz4⟩ := qb h4
   try simp at hz4
   have hb4_0 := fun o => hc4 (w.heap.size + 1) o qi
   go_wp2
   exact qV (.agg #[.int .i64 (p.anchor : Nat), .int .i64 ((p.pl : Int) + 1), .bool false]) (by simp [results, results313, go_sem, hb4_0]) (by rw [show I = p.anchor by omega, show J = p.pl + 1 by omega] <;> rfl)
   all_goals
    exact qV (.agg #[.int .i64 (p.anchor : Nat), .int .i64 ((p.pl : Int) + 1), .bool false]) (by simp [results, results313, go_sem]) (by rw [show I = p.anchor by omega, show J = p.pl + 1 by omega] <;> rfl)
  ·have o6 : ((p.t.size : Nat) : Int) < ((p.pl : Nat) : Int) + 1 := by omega
   go_enter func313, ntmps313
   have g0 : ((w.alloc (.cells #[.pointer (some ⟨r, 0, none⟩)] 81)).alloc (.cells #[.int .i64 0, .int .i64 0, .bool false] 186)).cell? ⟨w.heap.size, 0, none⟩ = some (.pointer (some ⟨r, 0, none⟩)) := by simp
   go_wp2_with fail
   go_region_held3 (fun ww => ww.cell? ⟨w.heap.size, 0, none⟩ = some (.pointer (some ⟨r, 0, none⟩)) ∧ ww.cell? ⟨r, 0, none⟩ = some (.pointer (some ⟨d, 0, none⟩)) ∧ ww.cell? ⟨d, 1, none⟩ = some (.int .i64 p.pl) ∧ ww.cell? ⟨d, 2, none⟩ = some (.int .i64 p.anchor)) (exact qK) (fail)
   go_wp2_with fail
   refine (HE.out _).mono ?_
   rintro e w4 ⟨rfl, h4⟩
   obtain ⟨hc4, hf4, hz4⟩ := qb h4
   try simp at hz4
   have hb4_0 := fun o => hc4 (w.heap.size + 1) o qi
   go_wp2
   exact qV (.agg #[.int .i64 (p.anchor : Nat), .int .i64 (p.t.size : Nat), .bool false]) (by simp [results, results313, go_sem, hb4_0]) (by rw [show I = p.anchor by omega, show J = p.t.size by omega] <;> rfl)
   all_goals
    exact qV (.agg #[.int .i64 (p.anchor : Nat), .int .i64 (p.t.size : Nat), .bool false]) (by simp [results, results313, go_sem]) (by rw [show I = p.anchor by omega, show J = p.t.size by omega] <;> rfl)
 ·rw [ho] at d2
  have o3 : min ((p.pl : Nat) : Int) ((p.pl : Nat) : Int) = ((p.pl : Nat) : Int) := by omega
  have o4 : max ((p.pl : Nat) : Int) ((p.pl : Nat) : Int) = ((p.pl : Nat) : Int) := by omega
  have o5 : IntKind.i64.wrap (((p.pl : Nat) : Int) + 1) = ((p.pl : Nat) : Int) + 1 := by rw [IntKind.wrap_i64]; omega
  by_cases hq : p.pl + 1 ≤ p.t.size
  ·have o6 : ¬ ((p.t.size : Nat) : Int) < ((p.pl : Nat) : Int) + 1 := by omega
   go_enter func313, ntmps313
   have g0 : ((w.alloc (.cells #[.pointer (some ⟨r, 0, none⟩)] 81)).alloc (.cells #[.int .i64 0, .int .i64 0, .bool false] 186)).cell? ⟨w.heap.size, 0, none⟩ = some (.pointer (some ⟨r, 0, none⟩)) := by simp
   go_wp2_with fail
   go_region_held3 (fun ww => ww.cell? ⟨w.heap.size, 0, none⟩ = some (.pointer (some ⟨r, 0, none⟩)) ∧ ww.cell? ⟨r, 0, none⟩ = some (.pointer (some ⟨d, 0, none⟩)) ∧ ww.cell? ⟨d, 1, none⟩ = some (.int .i64 p.pl) ∧ ww.cell? ⟨d, 2, none⟩ = some (.int .i64 p.pl)) (exact qK) (fail)
   go_wp2_with fail
   refine (HE.out _).mono ?_
   rintro e w4 ⟨rfl, h4⟩
   obtain ⟨hc4, hf4, hz4⟩ := qb h4
   try simp at hz4
   have hb4_0 := fun o => hc4 (w.heap.size + 1) o qi
   go_wp2
   exact qV (.agg #[.int .i64 (p.pl : Nat), .int .i64 ((p.pl : Int) + 1), .bool false]) (by simp [results, results313, go_sem, hb4_0]) (by rw [show I = p.pl by omega, show J = p.pl + 1 by omega] <;> rfl)
   all_goals
    exact qV (.agg #[.int .i64 (p.pl : Nat), .int .i64 ((p.pl : Int) + 1), .bool false]) (by simp [results, results313, go_sem]) (by rw [show I = p.pl by omega, show J = p.pl + 1 by omega] <;> rfl)
  ·have o6 : ((p.t.size : Nat) : Int) < ((p.pl : Nat) : Int) + 1 := by omega
   go_enter func313, ntmps313
   have g0 : ((w.alloc (.cells #[.pointer (some ⟨r, 0, none⟩)] 81)).alloc (.cells #[.int .i64 0, .int .i64 0, .bool false] 186)).cell? ⟨w.heap.size, 0, none⟩ = some (.pointer (some ⟨r, 0, none⟩)) := by simp
   go_wp2_with fail
   go_region_held3 (fun ww => ww.cell? ⟨w.heap.size, 0, none⟩ = some (.pointer (some ⟨r, 0, none⟩)) ∧ ww.cell? ⟨r, 0, none⟩ = some (.pointer (some ⟨d, 0, none⟩)) ∧ ww.cell? ⟨d, 1, none⟩ = some (.int .i64 p.pl) ∧ ww.cell? ⟨d, 2, none⟩ = some (.int .i64 p.pl)) (exact qK) (fail)
   go_wp2_with fail
   refine (HE.out _).mono ?_
   rintro e w4 ⟨rfl, h4⟩
   obtain ⟨hc4, hf4, hz4⟩ := qb h4
   try simp at hz4
   have hb4_0 := fun o => hc4 (w.heap.size + 1) o qi
   go_wp2
   exact qV (.agg #[.int .i64 (p.pl : Nat), .int .i64 (p.t.size : Nat), .bool false]) (by simp [results, results313, go_sem, hb4_0]) (by rw [show I = p.pl by omega, show J = p.t.size by omega] <;> rfl)
   all_goals
    exact qV (.agg #[.int .i64 (p.pl : Nat), .int .i64 (p.t.size : Nat), .bool false]) (by simp [results, results313, go_sem]) (by rw [show I = p.pl by omega, show J = p.t.size by omega] <;> rfl)
 ·have o1 : ¬ ((p.anchor : Nat) : Int) < ((p.pl : Nat) : Int) := by omega
  have o2 : ((p.pl : Nat) : Int) < ((p.anchor : Nat) : Int) := by omega
  have o3 : min ((p.anchor : Nat) : Int) ((p.pl : Nat) : Int) = ((p.pl : Nat) : Int) := by omega
  have o4 : max ((p.anchor : Nat) : Int) ((p.pl : Nat) : Int) = ((p.anchor : Nat) : Int) := by omega
  have o5 : IntKind.i64.wrap (((p.anchor : Nat) : Int) + 1) = ((p.anchor : Nat) : Int) + 1 := by rw [IntKind.wrap_i64]; omega
  by_cases hq : p.anchor + 1 ≤ p.t.size
  ·have o6 : ¬ ((p.t.size : Nat) : Int) < ((p.anchor : Nat) : Int) + 1 := by omega
   go_enter func313, ntmps313
   have g0 : ((w.alloc (.cells #[.pointer (some ⟨r, 0, none⟩)] 81)).alloc (.cells #[.int .i64 0, .int .i64 0, .bool false] 186)).cell? ⟨w.heap.size, 0, none⟩ = some (.pointer (some ⟨r, 0, none⟩)) := by simp
   go_wp2_with fail
   go_region_held3 (fun ww => ww.cell? ⟨w.heap.size, 0, none⟩ = some (.pointer (some ⟨r, 0, none⟩)) ∧ ww.cell? ⟨r, 0, none⟩ = some (.pointer (some ⟨d, 0, none⟩)) ∧ ww.cell? ⟨d, 1, none⟩ = some (.int .i64 p.pl) ∧ ww.cell? ⟨d, 2, none⟩ = some (.int .i64 p.anchor)) (exact qK) (fail)
   go_wp2_with fail
   refine (HE.out _).mono ?_
   rintro e w4 ⟨rfl, h4⟩
   obtain ⟨hc4, hf4, hz4⟩ := qb h4
   try simp at hz4
   have hb4_0 := fun o => hc4 (w.heap.size + 1) o qi
   go_wp2
   exact qV (.agg #[.int .i64 (p.pl : Nat), .int .i64 ((p.anchor : Int) + 1), .bool false]) (by simp [results, results313, go_sem, hb4_0]) (by rw [show I = p.pl by omega, show J = p.anchor + 1 by omega] <;> rfl)
   all_goals
    exact qV (.agg #[.int .i64 (p.pl : Nat), .int .i64 ((p.anchor : Int) + 1), .bool false]) (by simp [results, results313, go_sem]) (by rw [show I = p.pl by omega, show J = p.anchor + 1 by omega] <;> rfl)
  ·have o6 : ((p.t.size : Nat) : Int) < ((p.anchor : Nat) : Int) + 1 := by omega
   go_enter func313, ntmps313
   have g0 : ((w.alloc (.cells #[.pointer (some ⟨r, 0, none⟩)] 81)).alloc (.cells #[.int .i64 0, .int .i64 0, .bool false] 186)).cell? ⟨w.heap.size, 0, none⟩ = some (.pointer (some ⟨r, 0, none⟩)) := by simp
   go_wp2_with fail
   go_region_held3 (fun ww => ww.cell? ⟨w.heap.size, 0, none⟩ = some (.pointer (some ⟨r, 0, none⟩)) ∧ ww.cell? ⟨r, 0, none⟩ = some (.pointer (some ⟨d, 0, none⟩)) ∧ ww.cell? ⟨d, 1, none⟩ = some (.int .i64 p.pl) ∧ ww.cell? ⟨d, 2, none⟩ = some (.int .i64 p.anchor)) (exact qK) (fail)
   go_wp2_with fail
   refine (HE.out _).mono ?_
   rintro e w4 ⟨rfl, h4⟩
   obtain ⟨hc4, hf4, hz4⟩ := qb h4
   try simp at hz4
   have hb4_0 := fun o => hc4 (w.heap.size + 1) o qi
   go_wp2
   exact qV (.agg #[.int .i64 (p.pl : Nat), .int .i64 (p.t.size : Nat), .bool false]) (by simp [results, results313, go_sem, hb4_0]) (by rw [show I = p.pl by omega, show J = p.t.size by omega] <;> rfl)
   all_goals
    exact qV (.agg #[.int .i64 (p.pl : Nat), .int .i64 (p.t.size : Nat), .bool false]) (by simp [results, results313, go_sem]) (by rw [show I = p.pl by omega, show J = p.t.size by omega] <;> rfl)
