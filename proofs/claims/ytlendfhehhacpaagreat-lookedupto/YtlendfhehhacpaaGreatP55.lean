/- Joined of the text WaysV. -/
import Derived.Test.YtlendfhehhacpaaGreatP37
import Derived.Test.YtlendfhehhacpaaGreatP08
import Derived.Test.YtlendfhehhacpaaGreatP05
set_option linter.unusedVariables false
set_option linter.unusedSimpArgs false
set_option maxRecDepth 100000
set_option maxHeartbeats 8000000
namespace Go.Proofs.YtlendfhehhacpaaGreat
open Go.RowKit
theorem sTaken_out (s : ByteArray) (p n q : Int) (v c : Bool) (w : World) :
    Calls Tryz.prog 203 #[.agg #[.string s, .int .i64 (p), .int .i64 (n), .bool v, .bool c], .agg #[.int .i64 (q), .int .i64 (0)]] w fun e w' => e = .returned (.agg #[.int .i64 (min p q), .int .i64 (max p q), .bool false]) ∧ Below w.heap.size w w' := by
  rcases Int.lt_trichotomy p q with h | h | h
  · rw [show min p q = p by omega, show max p q = q by omega]
    go_enter Tryz.func203, Tryz.ntmps203
    go_wp2
    refine bodyPost_ret (v := .agg #[.int .i64 p, .int .i64 q, .bool false]) (by simp [results, Tryz.results203, go_sem]) rfl ⟨rfl, ?_⟩
    repeat (with_reducible first | exact Below.refl _ _ | refine b_s ?_ _ | refine b_a ?_ _ | refine Below.drew ?_ | refine below_drewN ?_ _)
  · subst h; rw [Int.min_self, Int.max_self]
    go_enter Tryz.func203, Tryz.ntmps203
    go_wp2
    refine bodyPost_ret (v := .agg #[.int .i64 p, .int .i64 p, .bool false]) (by simp [results, Tryz.results203, go_sem]) rfl ⟨rfl, ?_⟩
    repeat (with_reducible first | exact Below.refl _ _ | refine b_s ?_ _ | refine b_a ?_ _ | refine Below.drew ?_ | refine below_drewN ?_ _)
  · rw [show min p q = q by omega, show max p q = p by omega]
    go_enter Tryz.func203, Tryz.ntmps203
    go_wp2
    refine bodyPost_ret (v := .agg #[.int .i64 q, .int .i64 p, .bool false]) (by simp [results, Tryz.results203, go_sem]) rfl ⟨rfl, ?_⟩
    repeat (with_reducible first | exact Below.refl _ _ | refine b_s ?_ _ | refine b_a ?_ _ | refine Below.drew ?_ | refine below_drewN ?_ _)
theorem sTaken_in (s : ByteArray) (p n q : Int) (v c : Bool) (w : World) (hp : 0 ≤ p ∧ p ≤ 5000) (hq : 0 ≤ q ∧ q ≤ 5000) :
    Calls Tryz.prog 203 #[.agg #[.string s, .int .i64 (p), .int .i64 (n), .bool v, .bool c], .agg #[.int .i64 (q), .int .i64 (1)]] w fun e w' => e = .returned (.agg #[.int .i64 (min p q), .int .i64 (max p q + 1), .bool false]) ∧ Below w.heap.size w w' := by
  rcases Int.lt_trichotomy p q with h | h | h
  · rw [show min p q = p by omega, show max p q = q by omega]
    go_enter Tryz.func203, Tryz.ntmps203
    go_wp2
    refine bodyPost_ret (v := .agg #[.int .i64 p, .int .i64 (q + 1), .bool false]) (by simp [results, Tryz.results203, go_sem]) rfl ⟨rfl, ?_⟩
    repeat (with_reducible first | exact Below.refl _ _ | refine b_s ?_ _ | refine b_a ?_ _ | refine Below.drew ?_ | refine below_drewN ?_ _)
  · subst h; rw [Int.min_self, Int.max_self]
    go_enter Tryz.func203, Tryz.ntmps203
    go_wp2
    refine bodyPost_ret (v := .agg #[.int .i64 p, .int .i64 (p + 1), .bool false]) (by simp [results, Tryz.results203, go_sem]) rfl ⟨rfl, ?_⟩
    repeat (with_reducible first | exact Below.refl _ _ | refine b_s ?_ _ | refine b_a ?_ _ | refine Below.drew ?_ | refine below_drewN ?_ _)
  · rw [show min p q = q by omega, show max p q = p by omega]
    go_enter Tryz.func203, Tryz.ntmps203
    go_wp2
    refine bodyPost_ret (v := .agg #[.int .i64 q, .int .i64 (p + 1), .bool false]) (by simp [results, Tryz.results203, go_sem]) rfl ⟨rfl, ?_⟩
    repeat (with_reducible first | exact Below.refl _ _ | refine b_s ?_ _ | refine b_a ?_ _ | refine Below.drew ?_ | refine below_drewN ?_ _)
theorem sTaken_lines (s : ByteArray) (p q : Nat) (n : Int) (v c : Bool) (w : World) (hs : s.size ≤ 1000) (hp : p ≤ s.size) (hq : q ≤ s.size) :
    Calls Tryz.prog 203 #[.agg #[.string s, .int .i64 (p), .int .i64 (n), .bool v, .bool c], .agg #[.int .i64 (q), .int .i64 (2)]] w fun e w' => e = .returned (.agg #[.int .i64 (min (Nib.beg s p) (Nib.beg s q)), .int .i64 (max (Nib.fin s p) (Nib.fin s q)), .bool true]) ∧ Below w.heap.size w w' := by
  rcases Nat.lt_trichotomy p q with h | h | h
  · have HL : Hid (∀ ww, Calls Tryz.prog 182 #[.string s, .int .i64 p, .int .i64 q] ww fun e w' => e = .returned (.agg #[.int .i64 (min (Nib.beg s p) (Nib.beg s q)), .int .i64 (max (Nib.fin s p) (Nib.fin s q)), .bool true]) ∧ Below ww.heap.size ww w') := fun ww => tLines_any s p q p q ww hs rfl rfl hp hq
    generalize min (Nib.beg s p : Int) (Nib.beg s q) = X at *
    generalize max (Nib.fin s p : Int) (Nib.fin s q) = Y at *
    go_enter Tryz.func203, Tryz.ntmps203
    go_wp2_with fail
    refine (HL.out _).mono ?_
    rintro e w1 ⟨rfl, h1⟩
    obtain ⟨hc1, hf1⟩ := bcell h1
    have hz1 := h1.size
    try simp at hz1
    have l1 : w.heap.size + 1 + 1 < w1.heap.size := by omega
    have z0 : ∀ o, w1.frozen? ⟨w.heap.size + 1 + 1, o, none⟩ = false := by intro o; rw [hf1 _ _ (by simp)]; go_simp
    have c1 : w1.cell? ⟨w.heap.size + 1 + 1, 0, none⟩ = some (.int .i64 0) := by rw [hc1 _ _ (by simp)]; go_simp
    have c2 : w1.cell? ⟨w.heap.size + 1 + 1, 1, none⟩ = some (.int .i64 0) := by rw [hc1 _ _ (by simp)]; go_simp
    have c3 : w1.cell? ⟨w.heap.size + 1 + 1, 2, none⟩ = some (.bool false) := by rw [hc1 _ _ (by simp)]; go_simp
    clear hc1 hf1
    go_wp2
    refine bodyPost_ret (v := .agg #[.int .i64 X, .int .i64 Y, .bool true]) (by simp [results, Tryz.results203, go_sem, c1, c2, c3, z0, l1]) rfl ⟨rfl, ?_⟩
    repeat (with_reducible first | exact Below.refl _ _ | refine b_s ?_ _ | refine b_a ?_ _ | refine Below.drew ?_ | refine below_drewN ?_ _ | refine b_t ?_ h1)
  · subst h
    have HL : Hid (∀ ww, Calls Tryz.prog 182 #[.string s, .int .i64 p, .int .i64 p] ww fun e w' => e = .returned (.agg #[.int .i64 (min (Nib.beg s p) (Nib.beg s p)), .int .i64 (max (Nib.fin s p) (Nib.fin s p)), .bool true]) ∧ Below ww.heap.size ww w') := fun ww => tLines_any s p p p p ww hs rfl rfl hp hp
    generalize min (Nib.beg s p : Int) (Nib.beg s p) = X at *
    generalize max (Nib.fin s p : Int) (Nib.fin s p) = Y at *
    go_enter Tryz.func203, Tryz.ntmps203
    go_wp2_with fail
    refine (HL.out _).mono ?_
    rintro e w1 ⟨rfl, h1⟩
    obtain ⟨hc1, hf1⟩ := bcell h1
    have hz1 := h1.size
    try simp at hz1
    have l1 : w.heap.size + 1 + 1 < w1.heap.size := by omega
    have z0 : ∀ o, w1.frozen? ⟨w.heap.size + 1 + 1, o, none⟩ = false := by intro o; rw [hf1 _ _ (by simp)]; go_simp
    have c1 : w1.cell? ⟨w.heap.size + 1 + 1, 0, none⟩ = some (.int .i64 0) := by rw [hc1 _ _ (by simp)]; go_simp
    have c2 : w1.cell? ⟨w.heap.size + 1 + 1, 1, none⟩ = some (.int .i64 0) := by rw [hc1 _ _ (by simp)]; go_simp
    have c3 : w1.cell? ⟨w.heap.size + 1 + 1, 2, none⟩ = some (.bool false) := by rw [hc1 _ _ (by simp)]; go_simp
    clear hc1 hf1
    go_wp2
    refine bodyPost_ret (v := .agg #[.int .i64 X, .int .i64 Y, .bool true]) (by simp [results, Tryz.results203, go_sem, c1, c2, c3, z0, l1]) rfl ⟨rfl, ?_⟩
    repeat (with_reducible first | exact Below.refl _ _ | refine b_s ?_ _ | refine b_a ?_ _ | refine Below.drew ?_ | refine below_drewN ?_ _ | refine b_t ?_ h1)
  · have HL : Hid (∀ ww, Calls Tryz.prog 182 #[.string s, .int .i64 q, .int .i64 p] ww fun e w' => e = .returned (.agg #[.int .i64 (min (Nib.beg s p) (Nib.beg s q)), .int .i64 (max (Nib.fin s p) (Nib.fin s q)), .bool true]) ∧ Below ww.heap.size ww w') := by
      intro ww
      rw [Int.min_comm, Int.max_comm]
      exact tLines_any s q p q p ww hs rfl rfl hq hp
    generalize min (Nib.beg s p : Int) (Nib.beg s q) = X at *
    generalize max (Nib.fin s p : Int) (Nib.fin s q) = Y at *
    go_enter Tryz.func203, Tryz.ntmps203
    go_wp2_with fail
    refine (HL.out _).mono ?_
    rintro e w1 ⟨rfl, h1⟩
    obtain ⟨hc1, hf1⟩ := bcell h1
    have hz1 := h1.size
    try simp at hz1
    have l1 : w.heap.size + 1 + 1 < w1.heap.size := by omega
    have z0 : ∀ o, w1.frozen? ⟨w.heap.size + 1 + 1, o, none⟩ = false := by intro o; rw [hf1 _ _ (by simp)]; go_simp
    have c1 : w1.cell? ⟨w.heap.size + 1 + 1, 0, none⟩ = some (.int .i64 0) := by rw [hc1 _ _ (by simp)]; go_simp
    have c2 : w1.cell? ⟨w.heap.size + 1 + 1, 1, none⟩ = some (.int .i64 0) := by rw [hc1 _ _ (by simp)]; go_simp
    have c3 : w1.cell? ⟨w.heap.size + 1 + 1, 2, none⟩ = some (.bool false) := by rw [hc1 _ _ (by simp)]; go_simp
    clear hc1 hf1
    go_wp2
    refine bodyPost_ret (v := .agg #[.int .i64 X, .int .i64 Y, .bool true]) (by simp [results, Tryz.results203, go_sem, c1, c2, c3, z0, l1]) rfl ⟨rfl, ?_⟩
    repeat (with_reducible first | exact Below.refl _ _ | refine b_s ?_ _ | refine b_a ?_ _ | refine Below.drew ?_ | refine below_drewN ?_ _ | refine b_t ?_ h1)
end Go.Proofs.YtlendfhehhacpaaGreat
