/- A part. -/
import Derived.Test.YtlendfhehhacpaaGreatT07
import Derived.Test.YtlendfhehhacpaaGreatT06
set_option linter.unusedVariables false
set_option linter.unusedSimpArgs false
set_option maxRecDepth 100000
set_option maxHeartbeats 8000000
namespace Go.Proofs.YtlendfhehhacpaaGreat
open Go.RowKit Nib Tryz
def ahd (s t : ByteArray) : Nat := Nib.up (fun i => bt s i == bt t i) (min s.size t.size) 0
def bhd (s t : ByteArray) : Nat := Nib.up (fun i => bt s (s.size - 1 - i) == bt t (t.size - 1 - i)) (min s.size t.size - ahd s t) 0
theorem qt20 {P : Prop} (h : P := by
  have HZ : B = z := by rw [← hu.out, up_stop]; exact fun h => hlt2 h.1
  clear hu
  go_wp2_with fail
  refine wp_region_held_drew (S := fun ww => Two ww w.heap.size 0 0) qk ?_ (fun hHeld => ?_)
  ·exact R0.drew
  refine qT 0 ?_
  simp only [Act.put, qP]
  refine qT 1 ?_
  simp only [Act.put, qP]
  refine qT 2 ?_
  simp only [Act.put, qP]
  refine qT 3 ?_
  simp only [Act.put, qP]
  refine wpAnyH_take (i := 4) (v := .bool false) (by simp only [List.getElem?_toArray, List.getElem?_cons_succ, List.getElem?_cons_zero]; rfl) qk qk qk (by exact fun _ _ _ h => h) (Or.inl ⟨by kernel_rfl, fun w hSw => by (try dsimp only at hSw); go_simp; first | done | omega | (simp [hlt2]; done)⟩) (by assumption) ?_
  try simp only [Act.put, qP]
  refine qT 5 ?_
  simp only [Act.put, qP]
  refine qS 6 ?_
  simp only [Act.put, qP]
  refine qS 7 ?_
  simp only [Act.put, qP]
  refine qS 8 ?_
  simp only [Act.put, qP]
  refine qS 9 ?_
  simp only [Act.put, qP]
  refine qS 10 ?_
  simp only [Act.put, qP]
  refine qS 11 ?_
  simp only [Act.put, qP]
  refine qS 12 ?_
  simp only [Act.put, qP]
  refine qS 13 ?_
  simp only [Act.put, qP]
  refine qS 14 ?_
  simp only [Act.put, qP]
  refine qS 15 ?_
  simp only [Act.put, qP]
  refine qS 16 ?_
  simp only [Act.put, qP]
  refine qS 17 ?_
  simp only [Act.put, qP]
  refine qS 18 ?_
  simp only [Act.put, qP]
  refine qS 19 ?_
  simp only [Act.put, qP]
  refine qS 20 ?_
  simp only [Act.put, qP]
  refine qT 21 ?_
  simp only [Act.put, qP]
  refine wpAnyH_done qk ?_ _
  go_wp2
  exact qV (.tuple #[.agg #[.int .i64 (A), .int .i64 ((s.size : Int) - z)], .agg #[.int .i64 (A), .int .i64 ((t.size : Int) - z)]]) (by simp [results, results85, go_sem, ra0, ra1, raz, ral, rb0, rb1, rbz, rbl]) (by rw [HZ])
 ) : P := h
theorem tApart_any (s t : ByteArray) (w : World) (hs : s.size ≤ 1000) (ht : t.size ≤ 1000) :
  qC 85 #[.string s, .string t] w (.tuple #[.agg #[.int .i64 (ahd s t), .int .i64 ((s.size : Int) - bhd s t)], .agg #[.int .i64 (ahd s t), .int .i64 ((t.size : Int) - bhd s t)]]) := by
 have HA : Hid (Nib.up (fun i => bt s i == bt t i) (min s.size t.size) 0 = ahd s t) := rfl
 have HB : Hid (Nib.up (fun i => bt s (s.size - 1 - i) == bt t (t.size - 1 - i)) (min s.size t.size - ahd s t) 0 = bhd s t) := rfl
 have hA : ahd s t ≤ min s.size t.size := up_le (Nat.zero_le _)
 generalize ahd s t = A at *
 generalize bhd s t = B at *
 generalize hM : min s.size t.size = M at *
 have hm1 : M ≤ s.size := by omega
 have hm2 : M ≤ t.size := by omega
 rcases Nat.lt_or_ge t.size s.size with hst | hst
 all_goals
  go_enter func85, ntmps85
  have R0 : Two ((w.alloc (.cells #[.int .i64 0, .int .i64 0] 128)).alloc (.cells #[.int .i64 0, .int .i64 0] 128)) w.heap.size 0 0 := Two.alloc (Two.new _ _ _ _) _
  have R1 : Two ((w.alloc (.cells #[.int .i64 0, .int .i64 0] 128)).alloc (.cells #[.int .i64 0, .int .i64 0] 128)) (w.heap.size + 1) 0 0 := qN
  have BB : Below w.heap.size w ((w.alloc (.cells #[.int .i64 0, .int .i64 0] 128)).alloc (.cells #[.int .i64 0, .int .i64 0] 128)) := by
   repeat exact qB
  go_wp2
  go_loopw [7] (fun a wr => ∃ q : Nat, q ≤ M ∧ a = .int .i64 q ∧ Hid (Nib.up (fun i => bt s i == bt t i) M q = A) ∧ Two wr w.heap.size 0 0 ∧ Two wr (w.heap.size + 1) 0 0 ∧ Below w.heap.size w wr) (fun a _ => M - (intOf a).toNat)
  case atStart => exact ⟨0, Nat.zero_le _, rfl, HA, R0, R1, BB⟩
  case round =>
   clear R0 R1 BB
   obtain ⟨q, hq, rfl, hu, R0, R1, BB⟩ := hrel
   by_cases hlt : q < M
   ·have q1 : q < s.size := by omega
    have q2 : q < t.size := by omega
    have i1 : ((q : Nat) : Int) < ((s.size : Nat) : Int) := by omega
    have i2 : ((q : Nat) : Int) < ((t.size : Nat) : Int) := by omega
    by_cases hc : bt s q = bt t q
    ·have HS : Hid (Nib.up (fun i => bt s i == bt t i) M (q + 1) = A) := by rw [Hid, ← hu.out, up_step hlt (by simp [hc])]
     have HE : ((((s[q]'q1).toNat : Nat) : Int) == (((t[q]'q2).toNat : Nat) : Int)) = true := by rw [← bt_in q1, ← bt_in q2]; simp [hc]
     clear hu hc
     go_wp2_with fail
     go_region
     go_wp2
     go_round
     case rel => exact ⟨q + 1, by omega, by go_num, HS, R0.drew, R1.drew, BB.drew⟩
     case measure => simp [intOf] <;> omega
    ·have HZ : A = q := by rw [← hu.out, up_stop]; simp [hc]
     have HE : ((((s[q]'q1).toNat : Nat) : Int) == (((t[q]'q2).toNat : Nat) : Int)) = false := by rw [← bt_in q1, ← bt_in q2]; simp [hc]
     subst HZ
     clear hu hc
     go_wp2_with fail
     go_region
     go_wp2
     go_loopw [8] (fun a wr => ∃ z : Nat, z ≤ M - A ∧ a = .int .i64 z ∧ Hid (Nib.up (fun i => bt s (s.size - 1 - i) == bt t (t.size - 1 - i)) (M - A) z = B) ∧ Two wr w.heap.size 0 0 ∧ Two wr (w.heap.size + 1) 0 0 ∧ Below w.heap.size w wr) (fun a _ => (M - A) - (intOf a).toNat)
     case atStart => exact ⟨0, Nat.zero_le _, rfl, HB, R0.drew, R1.drew, BB.drew⟩
     case round =>
      clear R0 R1 BB
      obtain ⟨z, hz, rfl, hu, R0, R1, BB⟩ := hrel
      have ra0 := (R0).c0
      have ra1 := (R0).c1
      have raz := (R0).fz
      have ral := (R0).lt
      have rb0 := (R1).c0
      have rb1 := (R1).c1
      have rbz := (R1).fz
      have rbl := (R1).lt
      have j5 : IntKind.i64.wrap (((t.size : Nat) : Int) - ((A : Nat) : Int)) = ((t.size : Nat) : Int) - ((A : Nat) : Int) := by rw [IntKind.wrap_i64]; omega
      have j6 : IntKind.i64.wrap (((s.size : Nat) : Int) - ((A : Nat) : Int)) = ((s.size : Nat) : Int) - ((A : Nat) : Int) := by rw [IntKind.wrap_i64]; omega
      have j7 : IntKind.i64.wrap (((t.size : Nat) : Int) - ((z : Nat) : Int)) = ((t.size : Nat) : Int) - ((z : Nat) : Int) := by rw [IntKind.wrap_i64]; omega
      have j8 : IntKind.i64.wrap (((s.size : Nat) : Int) - ((z : Nat) : Int)) = ((s.size : Nat) : Int) - ((z : Nat) : Int) := by rw [IntKind.wrap_i64]; omega
      by_cases hlt2 : z < M - A
      ·have z1 : s.size - 1 - z < s.size := by omega
       have z2 : t.size - 1 - z < t.size := by omega
       have j1 : ((s.size : Nat) : Int) - 1 - ((z : Nat) : Int) = ((s.size - 1 - z : Nat) : Int) := by omega
       have j2 : ((t.size : Nat) : Int) - 1 - ((z : Nat) : Int) = ((t.size - 1 - z : Nat) : Int) := by omega
       first | (have i3 : ((z : Nat) : Int) < ((t.size : Nat) : Int) - ((A : Nat) : Int) := by omega) | skip
       first | (have i4 : ((z : Nat) : Int) < ((s.size : Nat) : Int) - ((A : Nat) : Int) := by omega) | skip
       by_cases hc : bt s (s.size - 1 - z) = bt t (t.size - 1 - z)
       ·have HS : Hid (Nib.up (fun i => bt s (s.size - 1 - i) == bt t (t.size - 1 - i)) (M - A) (z + 1) = B) := by rw [Hid, ← hu.out, up_step hlt2 (by simp [hc])]
        have HE : ((((s[s.size - 1 - z]'z1).toNat : Nat) : Int) == (((t[t.size - 1 - z]'z2).toNat : Nat) : Int)) = true := by rw [← bt_in z1, ← bt_in z2]; simp [hc]
        clear hu hc
        go_wp2_with fail
        go_region
        go_wp2
        go_round
        case rel => exact ⟨z + 1, by omega, by go_num, HS, R0.drew, R1.drew, BB.drew⟩
        case measure => simp [intOf] <;> omega
       ·have HZ : B = z := by rw [← hu.out, up_stop]; simp [hc]
        have HE : ((((s[s.size - 1 - z]'z1).toNat : Nat) : Int) == (((t[t.size - 1 - z]'z2).toNat : Nat) : Int)) = false := by rw [← bt_in z1, ← bt_in z2]; simp [hc]
        clear hu hc
        go_wp2_with fail
        go_region
        go_wp2
        exact qV (.tuple #[.agg #[.int .i64 (A), .int .i64 ((s.size : Int) - z)], .agg #[.int .i64 (A), .int .i64 ((t.size : Int) - z)]]) (by simp [results, results85, go_sem, ra0, ra1, raz, ral, rb0, rb1, rbz, rbl]) (by rw [HZ])
      ·exact qt20
   ·have HZ : A = q := by rw [← hu.out, up_stop]; exact fun h => hlt h.1
    subst HZ
    clear hu
    go_wp2_with fail
    refine wp_region_held_drew (S := fun ww => Two ww w.heap.size 0 0) qk ?_ (fun hHeld => ?_)
    ·exact R0.drew
    refine qT 0 ?_
    simp only [Act.put, qP]
    refine qT 1 ?_
    simp only [Act.put, qP]
    refine wpAnyH_take (i := 2) (v := .bool false) (by simp only [List.getElem?_toArray, List.getElem?_cons_succ, List.getElem?_cons_zero]; rfl) qk qk qk (by exact fun _ _ _ h => h) (Or.inl ⟨by kernel_rfl, fun w hSw => by (try dsimp only at hSw); go_simp; first | done | omega | (simp [hlt]; done)⟩) (by assumption) ?_
    try simp only [Act.put, qP]
    refine qT 3 ?_
    simp only [Act.put, qP]
    refine qS 4 ?_
    simp only [Act.put, qP]
    refine qS 5 ?_
    simp only [Act.put, qP]
    refine qS 6 ?_
    simp only [Act.put, qP]
    refine qS 7 ?_
    simp only [Act.put, qP]
    refine qS 8 ?_
    simp only [Act.put, qP]
    refine qS 9 ?_
    simp only [Act.put, qP]
    refine qS 10 ?_
    simp only [Act.put, qP]
    refine qT 11 ?_
    simp only [Act.put, qP]
    refine wpAnyH_done qk ?_ _
    go_wp2
    go_loopw [8] (fun a wr => ∃ z : Nat, z ≤ M - A ∧ a = .int .i64 z ∧ Hid (Nib.up (fun i => bt s (s.size - 1 - i) == bt t (t.size - 1 - i)) (M - A) z = B) ∧ Two wr w.heap.size 0 0 ∧ Two wr (w.heap.size + 1) 0 0 ∧ Below w.heap.size w wr) (fun a _ => (M - A) - (intOf a).toNat)
    case atStart => exact ⟨0, Nat.zero_le _, rfl, HB, R0.drew, R1.drew, BB.drew⟩
    case round =>
     clear R0 R1 BB
     obtain ⟨z, hz, rfl, hu, R0, R1, BB⟩ := hrel
     have ra0 := (R0).c0
     have ra1 := (R0).c1
     have raz := (R0).fz
     have ral := (R0).lt
     have rb0 := (R1).c0
     have rb1 := (R1).c1
     have rbz := (R1).fz
     have rbl := (R1).lt
     have j5 : IntKind.i64.wrap (((t.size : Nat) : Int) - ((A : Nat) : Int)) = ((t.size : Nat) : Int) - ((A : Nat) : Int) := by rw [IntKind.wrap_i64]; omega
     have j6 : IntKind.i64.wrap (((s.size : Nat) : Int) - ((A : Nat) : Int)) = ((s.size : Nat) : Int) - ((A : Nat) : Int) := by rw [IntKind.wrap_i64]; omega
     have j7 : IntKind.i64.wrap (((t.size : Nat) : Int) - ((z : Nat) : Int)) = ((t.size : Nat) : Int) - ((z : Nat) : Int) := by rw [IntKind.wrap_i64]; omega
     have j8 : IntKind.i64.wrap (((s.size : Nat) : Int) - ((z : Nat) : Int)) = ((s.size : Nat) : Int) - ((z : Nat) : Int) := by rw [IntKind.wrap_i64]; omega
     by_cases hlt2 : z < M - A
     ·exact absurd hlt2 qo
     ·exact qt20
