/- A part. -/
import Derived.Test.YtlendfhehhacpaaGreatQ07
set_option linter.unusedVariables false
set_option linter.unusedSimpArgs false
set_option maxRecDepth 100000
set_option maxHeartbeats 8000000
namespace Go.Proofs.YtlendfhehhacpaaGreat
open Go.RowKit Nib Tryz
theorem qt9 {P : Prop} (h : P := by
  go_enter func206, ntmps206
  go_wp2_with fail
  refine (HL.out _).mono ?_
  rintro e w1 ⟨rfl, h1⟩
  obtain ⟨hc1, hf1, hz1⟩ := qb h1
  try simp at hz1
  have hb1_0 := fun o => hc1 (w.heap.size) o qO
  have fb1_0 := fun o => hf1 (w.heap.size) o qO
  have ⟨hg1_0, hh1_0⟩ := qL w.heap.size w1.heap.size
  have hb1_1 := fun o => hc1 (w.heap.size + 1) o qO
  have fb1_1 := fun o => hf1 (w.heap.size + 1) o qO
  have ⟨hg1_1, hh1_1⟩ := qL (w.heap.size + 1) w1.heap.size
  have s0 : (w1).cell? ⟨w.heap.size, 0, none⟩ = some (.string s) := by rw [hb1_0]; simp
  have s1 : (w1).cell? ⟨w.heap.size, 1, none⟩ = some (.int .i64 p) := by rw [hb1_0]; simp
  have s2 : (w1).cell? ⟨w.heap.size, 2, none⟩ = some (.int .i64 n) := by rw [hb1_0]; simp
  have s3 : (w1).cell? ⟨w.heap.size, 3, none⟩ = some (.bool v) := by rw [hb1_0]; simp
  have s4 : (w1).cell? ⟨w.heap.size, 4, none⟩ = some (.bool c) := by rw [hb1_0]; simp
  have b0 : w1.cell? ⟨w.heap.size + 1, 0, none⟩ = some (.int .i64 0) := by rw [hb1_1]; simp
  have b1 : w1.cell? ⟨w.heap.size + 1, 1, none⟩ = some (.int .i64 0) := by rw [hb1_1]; simp
  have ne1 : ¬ w1.heap.size = w.heap.size := qo
  have ne2 : ¬ w.heap.size = w1.heap.size := qo
  have t0 : (w1.alloc (.cells #[.int .i64 B, .int .i64 F] 128)).cell? ⟨w1.heap.size, 0, none⟩ = some (.int .i64 B) := by simp
  have t1 : (w1.alloc (.cells #[.int .i64 B, .int .i64 F] 128)).cell? ⟨w1.heap.size, 1, none⟩ = some (.int .i64 F) := by simp
  go_wp2_with fail
  go_region_held3 (fun ww => ww.cell? ⟨w.heap.size, 0, none⟩ = some (.string s) ∧ ww.cell? ⟨w.heap.size, 1, none⟩ = some (.int .i64 p) ∧ ww.cell? ⟨w.heap.size, 2, none⟩ = some (.int .i64 n) ∧ ww.cell? ⟨w.heap.size, 3, none⟩ = some (.bool v) ∧ ww.cell? ⟨w.heap.size, 4, none⟩ = some (.bool c) ∧ ww.cell? ⟨w1.heap.size, 0, none⟩ = some (.int .i64 B) ∧ ww.cell? ⟨w1.heap.size, 1, none⟩ = some (.int .i64 F)) (exact qK) (first | (go_at_call 241; refine (HN.out _).mono ?_; rintro r2 w2 ⟨rfl, h2⟩; obtain ⟨hc2, hf2, hz2⟩ := qb h2; (try simp at hz2); (try have ⟨hl2_0, hk2_0⟩ := qL w.heap.size w2.heap.size); (try have ⟨hl2_1, hk2_1⟩ := qL w1.heap.size w2.heap.size); have hb2_0 := fun o => hc2 (w.heap.size + 1) o qO; have fb2_0 := fun o => hf2 (w.heap.size + 1) o qO; have hb2_1 := fun o => hc2 (w1.heap.size) o qO; have fb2_1 := fun o => hf2 (w1.heap.size) o qO; have hb2_2 := fun o => hc2 (w.heap.size) o qO; have fb2_2 := fun o => hf2 (w.heap.size) o qO; (try have ⟨hg2_0, hh2_0⟩ := qL (w.heap.size + 1) w2.heap.size); (try have ⟨hg2_1, hh2_1⟩ := qL w1.heap.size w2.heap.size); (try have ⟨hg2_2, hh2_2⟩ := qL w.heap.size w2.heap.size); (try have ⟨hg2_3, hh2_3⟩ := qL (w1.heap.size + 1) w2.heap.size); (try have ⟨hg2_4, hh2_4⟩ := qL w2.heap.size w2.heap.size)) | (go_at_call 180; refine (HD.out _).mono ?_; rintro r3 w3 ⟨rfl, h3⟩; obtain ⟨hc3, hf3, hz3⟩ := qb h3; (try simp at hz3); (try have ⟨hl3_0, hk3_0⟩ := qL w.heap.size w3.heap.size); (try have ⟨hl3_1, hk3_1⟩ := qL w1.heap.size w3.heap.size); have hb3_0 := fun o => hc3 (w.heap.size + 1) o qO; have fb3_0 := fun o => hf3 (w.heap.size + 1) o qO; have hb3_1 := fun o => hc3 (w1.heap.size) o qO; have fb3_1 := fun o => hf3 (w1.heap.size) o qO; have hb3_2 := fun o => hc3 (w.heap.size) o qO; have fb3_2 := fun o => hf3 (w.heap.size) o qO; (try have ⟨hg3_0, hh3_0⟩ := qL (w.heap.size + 1) w3.heap.size); (try have ⟨hg3_1, hh3_1⟩ := qL w1.heap.size w3.heap.size); (try have ⟨hg3_2, hh3_2⟩ := qL w.heap.size w3.heap.size); (try have ⟨hg3_3, hh3_3⟩ := qL (w1.heap.size + 1) w3.heap.size); (try have ⟨hg3_4, hh3_4⟩ := qL w2.heap.size w3.heap.size)))
  all_goals
   go_wp2_with fail
   refine (HN.out _).mono ?_
   rintro e w4 ⟨rfl, h4⟩
   obtain ⟨hc4, hf4, hz4⟩ := qb h4
   try simp at hz4
   have hb4_0 := fun o => hc4 (w.heap.size + 1) o qO
   have fb4_0 := fun o => hf4 (w.heap.size + 1) o qO
   have ⟨hg4_0, hh4_0⟩ := qL (w.heap.size + 1) w4.heap.size
   have hb4_1 := fun o => hc4 (w1.heap.size) o qO
   have fb4_1 := fun o => hf4 (w1.heap.size) o qO
   have ⟨hg4_1, hh4_1⟩ := qL w1.heap.size w4.heap.size
   have hb4_2 := fun o => hc4 (w.heap.size) o qO
   have fb4_2 := fun o => hf4 (w.heap.size) o qO
   have ⟨hg4_2, hh4_2⟩ := qL w.heap.size w4.heap.size
   (try have q1 : w1.heap.size + 1 < w4.heap.size := qo)
   (try have q2 : w2.heap.size < w4.heap.size := qo)
   (try have q3 : w3.heap.size < w4.heap.size := qo)
   go_wp2_with fail
   refine (HC.out _).mono ?_
   rintro e w5 ⟨rfl, h5⟩
   obtain ⟨hc5, hf5, hz5⟩ := qb h5
   try simp at hz5
   have hb5_0 := fun o => hc5 (w.heap.size + 1) o qO
   have fb5_0 := fun o => hf5 (w.heap.size + 1) o qO
   have ⟨hg5_0, hh5_0⟩ := qL (w.heap.size + 1) w5.heap.size
   have z0 : (w5).cell? ⟨w.heap.size + 1, 0, none⟩ = some (.int .i64 0) := qM
   have z1 : (w5).cell? ⟨w.heap.size + 1, 1, none⟩ = some (.int .i64 0) := qM
   go_wp2
  all_goals
   first
    | (exact qV (.tuple #[.agg #[.int .i64 X, .int .i64 2], .bool true]) (by simp [results, results206, go_sem, z0, z1]) rfl)
 ) : P := h
theorem qt11 {P : Prop} (h : P := by
  go_enter func206, ntmps206
  go_wp2_with fail
  refine (HL.out _).mono ?_
  rintro e w1 ⟨rfl, h1⟩
  obtain ⟨hc1, hf1, hz1⟩ := qb h1
  try simp at hz1
  have hb1_0 := fun o => hc1 (w.heap.size) o qO
  have fb1_0 := fun o => hf1 (w.heap.size) o qO
  have ⟨hg1_0, hh1_0⟩ := qL w.heap.size w1.heap.size
  have hb1_1 := fun o => hc1 (w.heap.size + 1) o qO
  have fb1_1 := fun o => hf1 (w.heap.size + 1) o qO
  have ⟨hg1_1, hh1_1⟩ := qL (w.heap.size + 1) w1.heap.size
  have s0 : (w1).cell? ⟨w.heap.size, 0, none⟩ = some (.string s) := by rw [hb1_0]; simp
  have s1 : (w1).cell? ⟨w.heap.size, 1, none⟩ = some (.int .i64 p) := by rw [hb1_0]; simp
  have s2 : (w1).cell? ⟨w.heap.size, 2, none⟩ = some (.int .i64 n) := by rw [hb1_0]; simp
  have s3 : (w1).cell? ⟨w.heap.size, 3, none⟩ = some (.bool v) := by rw [hb1_0]; simp
  have s4 : (w1).cell? ⟨w.heap.size, 4, none⟩ = some (.bool c) := by rw [hb1_0]; simp
  have b0 : w1.cell? ⟨w.heap.size + 1, 0, none⟩ = some (.int .i64 0) := by rw [hb1_1]; simp
  have b1 : w1.cell? ⟨w.heap.size + 1, 1, none⟩ = some (.int .i64 0) := by rw [hb1_1]; simp
  have ne1 : ¬ w1.heap.size = w.heap.size := qo
  have ne2 : ¬ w.heap.size = w1.heap.size := qo
  have t0 : (w1.alloc (.cells #[.int .i64 B, .int .i64 F] 128)).cell? ⟨w1.heap.size, 0, none⟩ = some (.int .i64 B) := by simp
  have t1 : (w1.alloc (.cells #[.int .i64 B, .int .i64 F] 128)).cell? ⟨w1.heap.size, 1, none⟩ = some (.int .i64 F) := by simp
  go_wp2_with fail
  go_region_held3 (fun ww => ww.cell? ⟨w.heap.size, 0, none⟩ = some (.string s) ∧ ww.cell? ⟨w.heap.size, 1, none⟩ = some (.int .i64 p) ∧ ww.cell? ⟨w.heap.size, 2, none⟩ = some (.int .i64 n) ∧ ww.cell? ⟨w.heap.size, 3, none⟩ = some (.bool v) ∧ ww.cell? ⟨w.heap.size, 4, none⟩ = some (.bool c) ∧ ww.cell? ⟨w1.heap.size, 0, none⟩ = some (.int .i64 B) ∧ ww.cell? ⟨w1.heap.size, 1, none⟩ = some (.int .i64 F)) (exact qK) (first | (go_at_call 241; refine (HN.out _).mono ?_; rintro r2 w2 ⟨rfl, h2⟩; obtain ⟨hc2, hf2, hz2⟩ := qb h2; (try simp at hz2); (try have ⟨hl2_0, hk2_0⟩ := qL w.heap.size w2.heap.size); (try have ⟨hl2_1, hk2_1⟩ := qL w1.heap.size w2.heap.size); have hb2_0 := fun o => hc2 (w.heap.size + 1) o qO; have fb2_0 := fun o => hf2 (w.heap.size + 1) o qO; have hb2_1 := fun o => hc2 (w1.heap.size) o qO; have fb2_1 := fun o => hf2 (w1.heap.size) o qO; have hb2_2 := fun o => hc2 (w.heap.size) o qO; have fb2_2 := fun o => hf2 (w.heap.size) o qO; (try have ⟨hg2_0, hh2_0⟩ := qL (w.heap.size + 1) w2.heap.size); (try have ⟨hg2_1, hh2_1⟩ := qL w1.heap.size w2.heap.size); (try have ⟨hg2_2, hh2_2⟩ := qL w.heap.size w2.heap.size); (try have ⟨hg2_3, hh2_3⟩ := qL (w1.heap.size + 1) w2.heap.size); (try have ⟨hg2_4, hh2_4⟩ := qL w2.heap.size w2.heap.size)) | (go_at_call 180; refine (HD.out _).mono ?_; rintro r3 w3 ⟨rfl, h3⟩; obtain ⟨hc3, hf3, hz3⟩ := qb h3; (try simp at hz3); (try have ⟨hl3_0, hk3_0⟩ := qL w.heap.size w3.heap.size); (try have ⟨hl3_1, hk3_1⟩ := qL w1.heap.size w3.heap.size); have hb3_0 := fun o => hc3 (w.heap.size + 1) o qO; have fb3_0 := fun o => hf3 (w.heap.size + 1) o qO; have hb3_1 := fun o => hc3 (w1.heap.size) o qO; have fb3_1 := fun o => hf3 (w1.heap.size) o qO; have hb3_2 := fun o => hc3 (w.heap.size) o qO; have fb3_2 := fun o => hf3 (w.heap.size) o qO; (try have ⟨hg3_0, hh3_0⟩ := qL (w.heap.size + 1) w3.heap.size); (try have ⟨hg3_1, hh3_1⟩ := qL w1.heap.size w3.heap.size); (try have ⟨hg3_2, hh3_2⟩ := qL w.heap.size w3.heap.size); (try have ⟨hg3_3, hh3_3⟩ := qL (w1.heap.size + 1) w3.heap.size); (try have ⟨hg3_4, hh3_4⟩ := qL w2.heap.size w3.heap.size)))
  all_goals
   go_wp2_with fail
   refine (HN.out _).mono ?_
   rintro e w4 ⟨rfl, h4⟩
   obtain ⟨hc4, hf4, hz4⟩ := qb h4
   try simp at hz4
   have hb4_0 := fun o => hc4 (w.heap.size + 1) o qO
   have fb4_0 := fun o => hf4 (w.heap.size + 1) o qO
   have ⟨hg4_0, hh4_0⟩ := qL (w.heap.size + 1) w4.heap.size
   have hb4_1 := fun o => hc4 (w1.heap.size) o qO
   have fb4_1 := fun o => hf4 (w1.heap.size) o qO
   have ⟨hg4_1, hh4_1⟩ := qL w1.heap.size w4.heap.size
   have hb4_2 := fun o => hc4 (w.heap.size) o qO
   have fb4_2 := fun o => hf4 (w.heap.size) o qO
   have ⟨hg4_2, hh4_2⟩ := qL w.heap.size w4.heap.size
   (try have q1 : w1.heap.size + 1 < w4.heap.size := qo)
   (try have q2 : w2.heap.size < w4.heap.size := qo)
   (try have q3 : w3.heap.size < w4.heap.size := qo)
   have z0 : (w4).cell? ⟨w.heap.size + 1, 0, none⟩ = some (.int .i64 0) := qM
   have z1 : (w4).cell? ⟨w.heap.size + 1, 1, none⟩ = some (.int .i64 0) := qM
   go_wp2
  all_goals
   first
    | (exact qV (.tuple #[.agg #[.int .i64 0, .int .i64 0], .bool false]) (by simp [results, results206, go_sem, z0, z1]) rfl)
 ) : P := h
theorem sToLine_gen (s : ByteArray) (p n : Nat) (v c : Bool) (key d : Int) (w : World) (W : Int × Int × Bool) (R G N : Nat) (hs : s.size ≤ 1000) (hp : p ≤ s.size) (hn : n ≤ 99) (hN : N = max n 1) (hR : R < lns s)
  (hk : (key = 106 ∧ d = 1) ∨ (key = 107 ∧ d = -1))
  (HD : qH 180 #[.string s, .agg #[.int .i64 (beg s p), .int .i64 (fin s p)], .int .i64 N, .int .i64 d] (.tuple #[.agg #[.int .i64 (att s R), .int .i64 (fin s (att s R))], .int .i64 G]))
  (HZ : Hid (W = if (G : Int) < (N : Int) then (0, 0, true) else (min (((att s R : Nat) : Int) + ((p : Int) - beg s p)) (max ((att s R : Nat) : Int) (((fin s (att s R) : Nat) : Int) - 1)), 2, false))) :
  qC 206 #[.agg #[.string s, .int .i64 (p), .int .i64 (n), .bool v, .bool c], .int .u8 key] w (.tuple #[.agg #[.int .i64 (wayX (W)), .int .i64 (wayK (W))], .bool (wayZ (W))]) := by
 have HL : qH 239 #[.agg #[.string s, .int .i64 (p), .int .i64 (n), .bool v, .bool c]] (.agg #[.int .i64 (beg s p), .int .i64 (fin s p)]) := fun ww => sLine_any s p n v c p ww hs rfl hp
 have HN : qH 241 #[.agg #[.string s, .int .i64 (p), .int .i64 (n), .bool v, .bool c]] (.int .i64 N) := by
  intro ww
  have := sNumber_any s p n v c ww
  rw [show max (n : Int) 1 = (N : Int) by omega] at this
  exact this
 have hF := fin_le (att_in hR).1
 have hA := (att_in hR).1
 have hB := beg_le s p
 have HC : qH 245 #[.agg #[.int .i64 (att s R), .int .i64 (fin s (att s R))], .int .i64 ((p : Int) - beg s p)] (.int .i64 (min (((att s R : Nat) : Int) + ((p : Int) - beg s p)) (max ((att s R : Nat) : Int) (((fin s (att s R) : Nat) : Int) - 1)))) := fun ww => tColumn_any _ _ _ ww qo qo
 generalize min (((att s R : Nat) : Int) + ((p : Int) - beg s p)) (max ((att s R : Nat) : Int) (((fin s (att s R) : Nat) : Int) - 1)) = X at *
 generalize fin s (att s R) = RF at *
 generalize att s R = RA at *
 generalize fin s p = F at *
 generalize beg s p = B at *
 clear hR
 have hw : IntKind.i64.wrap ((p : Int) - B) = (p : Int) - B := by rw [IntKind.wrap_i64]; omega
 have hN2 : N ≤ 99 := by omega
 clear hN
 by_cases hG : (G : Int) < (N : Int)
 ·rw [if_pos hG] at HZ
  rw [HZ.out, wayX_t, wayK_t, wayZ_t]
  clear HZ
  rcases hk with ⟨rfl, rfl⟩ | ⟨rfl, rfl⟩
  ·exact qt11
  ·exact qt11
 ·rw [if_neg hG] at HZ
  rw [HZ.out, wayX_f, wayK_f, wayZ_f]
  clear HZ
  have hbe : ((G : Int) < (N : Int)) = False := by simp; omega
  rcases hk with ⟨rfl, rfl⟩ | ⟨rfl, rfl⟩
  ·exact qt9
  ·exact qt9
theorem qt81 {P : Prop} (h : P := by
  generalize beg s p = B at *
  have : (if max (A : Int) ((F : Int) - 1) < (A : Int) + p - B then max (A : Int) ((F : Int) - 1) else (A : Int) + p - B) = min ((A : Int) + ((p : Int) - B)) (max (A : Int) ((F : Int) - 1)) := by split <;> omega
  rw [this]
 ) : P := h
theorem sToLine_j (s : ByteArray) (p n : Nat) (v c given : Bool) (w : World) (hs : s.size ≤ 1000) (hp : p ≤ s.size) (hn : n ≤ 99) :
  qC 206 #[.agg #[.string s, .int .i64 (p), .int .i64 (n), .bool v, .bool c], .int .u8 106] w (.tuple #[.agg #[.int .i64 (wayX (lineWay s p 106 (max n 1) given)), .int .i64 (wayK (lineWay s p 106 (max n 1) given))], .bool (wayZ (lineWay s p 106 (max n 1) given))]) := by
 have hm := lin_lt hp
 refine sToLine_gen s p n v c 106 1 w _ (min (lin s p + max n 1) (lns s - 1)) (min (max n 1) (lns s - 1 - lin s p)) (max n 1) hs hp hn rfl qo (Or.inl ⟨rfl, rfl⟩) ?_ ?_
 ·intro ww
  rw [fin_eq hp, beg_eq hp]
  exact tFurther_down s _ _ _ _ (lin s p) (max n 1) ww hs hm rfl rfl rfl rfl qo
 ·rw [Hid]
  unfold lineWay lineTo
  rw [if_pos rfl]
  by_cases h : (lns s : Int) ≤ (lin s p : Int) + (max n 1 : Nat)
  ·rw [if_pos (Or.inr h), if_pos qo]
  ·have hx : ¬ ((min (max n 1) (lns s - 1 - lin s p) : Nat) : Int) < ((max n 1 : Nat) : Int) := by omega
   rw [if_neg qo]
   simp only [hx, if_false]
   have e1 : ((lin s p : Int) + (max n 1 : Nat)).toNat = lin s p + max n 1 := by omega
   have e2 : min (lin s p + max n 1) (lns s - 1) = lin s p + max n 1 := by omega
   have hb := beg_le s p
   rw [e1, e2, lst_max, beg_att qo]
   generalize fin s (att s (lin s p + max n 1)) = F
   generalize att s (lin s p + max n 1) = A
   exact qt81
theorem sToLine_k (s : ByteArray) (p n : Nat) (v c given : Bool) (w : World) (hs : s.size ≤ 1000) (hp : p ≤ s.size) (hn : n ≤ 99) :
  qC 206 #[.agg #[.string s, .int .i64 (p), .int .i64 (n), .bool v, .bool c], .int .u8 107] w (.tuple #[.agg #[.int .i64 (wayX (lineWay s p 107 (max n 1) given)), .int .i64 (wayK (lineWay s p 107 (max n 1) given))], .bool (wayZ (lineWay s p 107 (max n 1) given))]) := by
 have hm := lin_lt hp
 refine sToLine_gen s p n v c 107 (-1) w _ (lin s p - max n 1) (min (max n 1) (lin s p)) (max n 1) hs hp hn rfl qo (Or.inr ⟨rfl, rfl⟩) ?_ ?_
 ·intro ww
  rw [fin_eq hp, beg_eq hp]
  exact tFurther_up s _ _ _ _ (lin s p) (max n 1) ww hs hm rfl rfl rfl rfl qo
 ·rw [Hid]
  unfold lineWay lineTo
  rw [if_neg qd, if_pos rfl]
  by_cases h : (lin s p : Int) - (max n 1 : Nat) < 0
  ·rw [if_pos (Or.inl h), if_pos qo]
  ·have hx : ¬ ((min (max n 1) (lin s p) : Nat) : Int) < ((max n 1 : Nat) : Int) := by omega
   rw [if_neg qo]
   simp only [hx, if_false]
   have e1 : ((lin s p : Int) - (max n 1 : Nat)).toNat = lin s p - max n 1 := by omega
   have hb := beg_le s p
   rw [e1, lst_max, beg_att qo]
   generalize fin s (att s (lin s p - max n 1)) = F
   generalize att s (lin s p - max n 1) = A
   exact qt81
theorem qt20 {P : Prop} (h : P := by
  go_wp2_with fail
  refine (HF.out _).mono ?_
  rintro r6 w6 ⟨rfl, h6⟩
  obtain ⟨hc6, hf6, hz6⟩ := qb h6
  (try simp at hz6)
  have RB6 : Two w6 (w.heap.size + 1) (0) (0) := qTw
  have ⟨RB6_0, RB6_1, RB6_z, RB6_l⟩ := RB6
  go_wp2
  all_goals
   first
    | (exact qV (.tuple #[.agg #[.int .i64 X, .int .i64 2], .bool true]) (by simp [results, results207, go_sem, RB6_0, RB6_1, RB6_z, RB6_l]) rfl)
 ) : P := h
theorem qt3 {P : Prop} (h : P := by
  go_enter func207, ntmps207
  have s0 : ((w.alloc (.cells #[.string s, .int .i64 (p), .int .i64 (n), .bool v, .bool c] 206)).alloc (.cells #[.int .i64 0, .int .i64 0] 202)).cell? ⟨w.heap.size, 0, none⟩ = some (.string s) := by simp
  have s1 : ((w.alloc (.cells #[.string s, .int .i64 (p), .int .i64 (n), .bool v, .bool c] 206)).alloc (.cells #[.int .i64 0, .int .i64 0] 202)).cell? ⟨w.heap.size, 1, none⟩ = some (.int .i64 p) := by simp
  have s2 : ((w.alloc (.cells #[.string s, .int .i64 (p), .int .i64 (n), .bool v, .bool c] 206)).alloc (.cells #[.int .i64 0, .int .i64 0] 202)).cell? ⟨w.heap.size, 2, none⟩ = some (.int .i64 n) := by simp
  have s3 : ((w.alloc (.cells #[.string s, .int .i64 (p), .int .i64 (n), .bool v, .bool c] 206)).alloc (.cells #[.int .i64 0, .int .i64 0] 202)).cell? ⟨w.heap.size, 3, none⟩ = some (.bool v) := by simp
  have s4 : ((w.alloc (.cells #[.string s, .int .i64 (p), .int .i64 (n), .bool v, .bool c] 206)).alloc (.cells #[.int .i64 0, .int .i64 0] 202)).cell? ⟨w.heap.size, 4, none⟩ = some (.bool c) := by simp
  have RB : Two (((w.alloc (.cells #[.string s, .int .i64 (p), .int .i64 (n), .bool v, .bool c] 206)).alloc (.cells #[.int .i64 0, .int .i64 0] 202))) (w.heap.size + 1) 0 0 := qN
  go_wp2_with fail
  go_region_held3 (fun ww => ww.cell? ⟨w.heap.size, 0, none⟩ = some (.string s) ∧ ww.cell? ⟨w.heap.size, 1, none⟩ = some (.int .i64 p) ∧ ww.cell? ⟨w.heap.size, 2, none⟩ = some (.int .i64 n) ∧ ww.cell? ⟨w.heap.size, 3, none⟩ = some (.bool v) ∧ ww.cell? ⟨w.heap.size, 4, none⟩ = some (.bool c)) (exact qK) (first | (go_at_call 246; refine (HEnd.out _).mono ?_; rintro r1 w1 ⟨rfl, h1⟩; obtain ⟨hc1, hf1, hz1⟩ := qb h1; (try simp at hz1); (try have ⟨hl1_0, hk1_0⟩ := qL w.heap.size w1.heap.size); (try have ⟨hl1_1, hk1_1⟩ := qL (w.heap.size + 1 + 1) w1.heap.size); (try have ⟨hl1_2, hk1_2⟩ := qL w1.heap.size w1.heap.size); have RB1 : Two w1 (w.heap.size + 1) (0) (0) := qTw; have ⟨RB1_0, RB1_1, RB1_z, RB1_l⟩ := RB1) | (go_at_call 195; refine (HLast.out _).mono ?_; rintro r2 w2 ⟨rfl, h2⟩; obtain ⟨hc2, hf2, hz2⟩ := qb h2; (try simp at hz2); (try have ⟨hl2_0, hk2_0⟩ := qL w.heap.size w2.heap.size); (try have ⟨hl2_1, hk2_1⟩ := qL (w.heap.size + 1 + 1) w2.heap.size); (try have ⟨hl2_2, hk2_2⟩ := qL w1.heap.size w2.heap.size); have RB2 : Two w2 (w.heap.size + 1) (0) (0) := qTw; have ⟨RB2_0, RB2_1, RB2_z, RB2_l⟩ := RB2))
  ·have T : Two (w2.alloc (.cells #[.int .i64 LA, .int .i64 LF] 128)) (w2.heap.size) LA LF := Two.new _ _ _ _
   go_wp2_with fail
   go_region_held3 (fun ww => ww.cell? ⟨w.heap.size, 0, none⟩ = some (.string s) ∧ ww.cell? ⟨w.heap.size, 1, none⟩ = some (.int .i64 p) ∧ ww.cell? ⟨w.heap.size, 2, none⟩ = some (.int .i64 n) ∧ ww.cell? ⟨w.heap.size, 3, none⟩ = some (.bool v) ∧ ww.cell? ⟨w.heap.size, 4, none⟩ = some (.bool c)) (exact qK) (first | (go_at_call 195; refine (HLine0.out _).mono ?_; rintro r3 w3 ⟨rfl, h3⟩; obtain ⟨hc3, hf3, hz3⟩ := qb h3; (try simp at hz3); (try have ⟨hl3_0, hk3_0⟩ := qL w.heap.size w3.heap.size); have T3 : Two w3 (w2.heap.size) (LA) (LF) := qTw; have ⟨T3_0, T3_1, T3_z, T3_l⟩ := T3; have RB3 : Two w3 (w.heap.size + 1) (0) (0) := qTw; have ⟨RB3_0, RB3_1, RB3_z, RB3_l⟩ := RB3) | (go_at_call 241; refine (HN.out _).mono ?_; rintro r4 w4 ⟨rfl, h4⟩; obtain ⟨hc4, hf4, hz4⟩ := qb h4; (try simp at hz4); (try have ⟨hl4_0, hk4_0⟩ := qL w.heap.size w4.heap.size); have T4 : Two w4 (w2.heap.size) (LA) (LF) := qTw; have ⟨T4_0, T4_1, T4_z, T4_l⟩ := T4; have RB4 : Two w4 (w.heap.size + 1) (0) (0) := qTw; have ⟨RB4_0, RB4_1, RB4_z, RB4_l⟩ := RB4) | (go_at_call 180; refine (HD.out _).mono ?_; rintro r5 w5 ⟨rfl, h5⟩; obtain ⟨hc5, hf5, hz5⟩ := qb h5; (try simp at hz5); (try have ⟨hl5_0, hk5_0⟩ := qL w.heap.size w5.heap.size); have T5 : Two w5 (w2.heap.size) (LA) (LF) := qTw; have ⟨T5_0, T5_1, T5_z, T5_l⟩ := T5; have RB5 : Two w5 (w.heap.size + 1) (0) (0) := qTw; have ⟨RB5_0, RB5_1, RB5_z, RB5_l⟩ := RB5))
   clear hc1 hf1 hc2 hf2 hc3 hf3 hc4 hf4 hc5 hf5
   exact qt20
  ·have Tb : Two w2 (w1.heap.size) 0 0 := Two.below (Two.new _ 0 0 _) h2
   have e0 := (Tb).c0
   have e1 := (Tb).c1
   have ez := (Tb).fz
   have el := (Tb).lt
   have T : Two ((w2.setCell ⟨w1.heap.size, 0, none⟩ (.int .i64 LA)).setCell ⟨w1.heap.size, 1, none⟩ (.int .i64 LF)) (w1.heap.size) LA LF := Two.set1 (Two.set0 Tb _) _
   go_wp2_with fail
   go_region_held3 (fun ww => ww.cell? ⟨w.heap.size, 0, none⟩ = some (.string s) ∧ ww.cell? ⟨w.heap.size, 1, none⟩ = some (.int .i64 p) ∧ ww.cell? ⟨w.heap.size, 2, none⟩ = some (.int .i64 n) ∧ ww.cell? ⟨w.heap.size, 3, none⟩ = some (.bool v) ∧ ww.cell? ⟨w.heap.size, 4, none⟩ = some (.bool c)) (exact qK) (first | (go_at_call 195; refine (HLine0.out _).mono ?_; rintro r3 w3 ⟨rfl, h3⟩; obtain ⟨hc3, hf3, hz3⟩ := qb h3; (try simp at hz3); (try have ⟨hl3_0, hk3_0⟩ := qL w.heap.size w3.heap.size); have T3 : Two w3 (w1.heap.size) (LA) (LF) := qTw; have ⟨T3_0, T3_1, T3_z, T3_l⟩ := T3; have RB3 : Two w3 (w.heap.size + 1) (0) (0) := qTw; have ⟨RB3_0, RB3_1, RB3_z, RB3_l⟩ := RB3) | (go_at_call 241; refine (HN.out _).mono ?_; rintro r4 w4 ⟨rfl, h4⟩; obtain ⟨hc4, hf4, hz4⟩ := qb h4; (try simp at hz4); (try have ⟨hl4_0, hk4_0⟩ := qL w.heap.size w4.heap.size); have T4 : Two w4 (w1.heap.size) (LA) (LF) := qTw; have ⟨T4_0, T4_1, T4_z, T4_l⟩ := T4; have RB4 : Two w4 (w.heap.size + 1) (0) (0) := qTw; have ⟨RB4_0, RB4_1, RB4_z, RB4_l⟩ := RB4) | (go_at_call 180; refine (HD.out _).mono ?_; rintro r5 w5 ⟨rfl, h5⟩; obtain ⟨hc5, hf5, hz5⟩ := qb h5; (try simp at hz5); (try have ⟨hl5_0, hk5_0⟩ := qL w.heap.size w5.heap.size); have T5 : Two w5 (w1.heap.size) (LA) (LF) := qTw; have ⟨T5_0, T5_1, T5_z, T5_l⟩ := T5; have RB5 : Two w5 (w.heap.size + 1) (0) (0) := qTw; have ⟨RB5_0, RB5_1, RB5_z, RB5_l⟩ := RB5))
   clear hc1 hf1 hc2 hf2 hc3 hf3 hc4 hf4 hc5 hf5
   exact qt20
  ·have Tb : Two w2 (w.heap.size + 1 + 1) 0 0 := by
    refine Two.below (Two.below (Two.drew ?_) h1) h2
    have := Two.new ((w.alloc (.cells #[.string s, .int .i64 (p), .int .i64 (n), .bool v, .bool c] 206)).alloc (.cells #[.int .i64 0, .int .i64 0] 202)) 0 0 128
    simpa using this
   have e0 := (Tb).c0
   have e1 := (Tb).c1
   have ez := (Tb).fz
   have el := (Tb).lt
   have T : Two ((w2.setCell ⟨w.heap.size + 1 + 1, 0, none⟩ (.int .i64 LA)).setCell ⟨w.heap.size + 1 + 1, 1, none⟩ (.int .i64 LF)) (w.heap.size + 1 + 1) LA LF := Two.set1 (Two.set0 Tb _) _
   go_wp2_with fail
   go_region_held3 (fun ww => ww.cell? ⟨w.heap.size, 0, none⟩ = some (.string s) ∧ ww.cell? ⟨w.heap.size, 1, none⟩ = some (.int .i64 p) ∧ ww.cell? ⟨w.heap.size, 2, none⟩ = some (.int .i64 n) ∧ ww.cell? ⟨w.heap.size, 3, none⟩ = some (.bool v) ∧ ww.cell? ⟨w.heap.size, 4, none⟩ = some (.bool c)) (exact qK) (first | (go_at_call 195; refine (HLine0.out _).mono ?_; rintro r3 w3 ⟨rfl, h3⟩; obtain ⟨hc3, hf3, hz3⟩ := qb h3; (try simp at hz3); (try have ⟨hl3_0, hk3_0⟩ := qL w.heap.size w3.heap.size); have T3 : Two w3 (w.heap.size + 1 + 1) (LA) (LF) := qTw; have ⟨T3_0, T3_1, T3_z, T3_l⟩ := T3; have RB3 : Two w3 (w.heap.size + 1) (0) (0) := qTw; have ⟨RB3_0, RB3_1, RB3_z, RB3_l⟩ := RB3) | (go_at_call 241; refine (HN.out _).mono ?_; rintro r4 w4 ⟨rfl, h4⟩; obtain ⟨hc4, hf4, hz4⟩ := qb h4; (try simp at hz4); (try have ⟨hl4_0, hk4_0⟩ := qL w.heap.size w4.heap.size); have T4 : Two w4 (w.heap.size + 1 + 1) (LA) (LF) := qTw; have ⟨T4_0, T4_1, T4_z, T4_l⟩ := T4; have RB4 : Two w4 (w.heap.size + 1) (0) (0) := qTw; have ⟨RB4_0, RB4_1, RB4_z, RB4_l⟩ := RB4) | (go_at_call 180; refine (HD.out _).mono ?_; rintro r5 w5 ⟨rfl, h5⟩; obtain ⟨hc5, hf5, hz5⟩ := qb h5; (try simp at hz5); (try have ⟨hl5_0, hk5_0⟩ := qL w.heap.size w5.heap.size); have T5 : Two w5 (w.heap.size + 1 + 1) (LA) (LF) := qTw; have ⟨T5_0, T5_1, T5_z, T5_l⟩ := T5; have RB5 : Two w5 (w.heap.size + 1) (0) (0) := qTw; have ⟨RB5_0, RB5_1, RB5_z, RB5_l⟩ := RB5))
   clear hc1 hf1 hc2 hf2 hc3 hf3 hc4 hf4 hc5 hf5
   exact qt20
 ) : P := h
theorem sToNumber_any (s : ByteArray) (p n : Nat) (v c : Bool) (key : Int) (w : World) (hs : s.size ≤ 1000) (hp : p ≤ s.size) (hn : n ≤ 99) (hk : key = 71 ∨ key = 103) :
  qC 207 #[.agg #[.string s, .int .i64 (p), .int .i64 (n), .bool v, .bool c], .int .u8 key] w (.tuple #[.agg #[.int .i64 (wayX (lineWay s p key (max n 1) (decide (0 < n)))), .int .i64 (wayK (lineWay s p key (max n 1) (decide (0 < n))))], .bool (wayZ (lineWay s p key (max n 1) (decide (0 < n))))]) := by
 have HR : Hid (lineWay s p key (max n 1) (decide (0 < n)) = ((frs s (att s (if 0 < n ∨ key = 103 then min (max n 1 - 1) (lns s - 1) else lns s - 1)) : Int), 2, false)) := by
  rw [Hid]
  have hl := lns_pos s
  unfold lineWay lineNo
  rw [if_neg qo, if_neg qo]
  have e : (if (lns s : Int) ≤ (if decide (0 < n) = true then ((max n 1 : Nat) : Int) - 1 else if key = 71 then (lns s : Int) - 1 else 0) then (lns s : Int) - 1 else (if decide (0 < n) = true then ((max n 1 : Nat) : Int) - 1 else if key = 71 then (lns s : Int) - 1 else 0)).toNat = if 0 < n ∨ key = 103 then min (max n 1 - 1) (lns s - 1) else lns s - 1 := by
   by_cases h0 : 0 < n
   ·simp only [h0, decide_true, if_true, true_or]
    split <;> omega
   ·rcases hk with rfl | rfl
    ·simp only [h0, decide_false, Bool.false_eq_true, if_false, if_true, false_or, show ¬ (71 : Int) = 103 by decide]
     split <;> omega
    ·simp only [h0, decide_false, Bool.false_eq_true, if_false, if_true, or_true, show ¬ (103 : Int) = 71 by decide]
     split <;> omega
  rw [e]
 rw [HR.out, wayX_f, wayK_f, wayZ_f]
 clear HR
 have hl := lns_pos s
 have hlast := (att_in (s := s) (m := lns s - 1) qo).1
 have HLast : qH 195 #[.string s, .int .i64 s.size] (.agg #[.int .i64 (att s (lns s - 1)), .int .i64 (fin s (att s (lns s - 1)))]) := by
  intro ww
  have := tLine_any s s.size s.size ww hs rfl (Nat.le_refl _)
  rw [fin_eq (Nat.le_refl _), beg_eq (Nat.le_refl _), show lin s s.size = lns s - 1 by unfold lns; omega] at this
  exact this
 have HLine0 : qH 195 #[.string s, .int .i64 0] (.agg #[.int .i64 (att s 0), .int .i64 (fin s (att s 0))]) := by
  intro ww
  exact tLine_any s 0 0 ww hs rfl (Nat.zero_le _)
 have HN : qH 241 #[.agg #[.string s, .int .i64 (p), .int .i64 (n), .bool v, .bool c]] (.int .i64 ((max n 1 : Nat) : Int)) := by
  exact qt46
 have HD : qH 180 #[.string s, .agg #[.int .i64 (att s 0), .int .i64 (fin s (att s 0))], .int .i64 (((max n 1 : Nat) : Int) - 1), .int .i64 1] (.tuple #[.agg #[.int .i64 (att s (min (max n 1 - 1) (lns s - 1))), .int .i64 (fin s (att s (min (max n 1 - 1) (lns s - 1))))], .int .i64 ((min (max n 1 - 1) (lns s - 1) : Nat) : Int)]) := by
  intro ww
  have := tFurther_down s _ _ (((max n 1 : Nat) : Int) - 1) 1 0 (max n 1 - 1) ww hs qo rfl rfl qo rfl qo
  rw [Nat.zero_add, Nat.sub_zero] at this
  exact this
 have HEnd : qH 246 #[.string s] (.int .i64 s.size) := by
  intro ww
  refine (tEnd_any s ww).mono ?_
  rintro e w' ⟨rfl, rfl⟩
  exact ⟨rfl, Below.refl _ _⟩
 have hN2 : max n 1 ≤ 99 := by omega
 have hN1 : 1 ≤ max n 1 := by omega
 have hm2 : min (max n 1 - 1) (lns s - 1) < lns s := by omega
 have HF : ∀ m, m < lns s → qH 243 #[.string s, .agg #[.int .i64 (att s m), .int .i64 (fin s (att s m))]] (.int .i64 (frs s (att s m))) := by
  intro m hm ww
  exact tFirst_any s _ _ (att s m) ww hs (att_in hm).1 (by rw [beg_att hm]) rfl
 by_cases hc : 0 < n ∨ key = 103
 ·have HF := HF _ hm2
  rw [if_pos hc]
  generalize min (max n 1 - 1) (lns s - 1) = M at *
  generalize max n 1 = N at *
  generalize frs s (att s M) = X at *
  generalize fin s (att s M) = MF at *
  generalize att s M = MA at *
  generalize fin s (att s 0) = ZF at *
  generalize att s 0 = ZA at *
  generalize fin s (att s (lns s - 1)) = LF at *
  generalize att s (lns s - 1) = LA at *
  have hw : IntKind.i64.wrap ((N : Int) - 1) = (N : Int) - 1 := by rw [IntKind.wrap_i64]; omega
  by_cases h0 : 0 < n
  ·have h0' : (0 : Int) < (n : Int) := by omega
   clear hc hk
   exact qt3
  ·have h0' : ((0 : Int) < (n : Int)) = False := by simp; omega
   have hkey : key = 103 := by omega
   clear hc hk
   subst hkey
   exact qt3
 ·have HF := HF (lns s - 1) qo
  rw [if_neg hc]
  clear HD HLine0 hm2
  generalize frs s (att s (lns s - 1)) = X at *
  generalize fin s (att s (lns s - 1)) = LF at *
  generalize att s (lns s - 1) = LA at *
  have h0' : ((0 : Int) < (n : Int)) = False := by simp; omega
  have hkey : key = 71 := by omega
  have h0 : ¬ 0 < n := by omega
  clear hc hk
  subst hkey
  go_enter func207, ntmps207
  have s0 : ((w.alloc (.cells #[.string s, .int .i64 (p), .int .i64 (n), .bool v, .bool c] 206)).alloc (.cells #[.int .i64 0, .int .i64 0] 202)).cell? ⟨w.heap.size, 0, none⟩ = some (.string s) := by simp
  have s1 : ((w.alloc (.cells #[.string s, .int .i64 (p), .int .i64 (n), .bool v, .bool c] 206)).alloc (.cells #[.int .i64 0, .int .i64 0] 202)).cell? ⟨w.heap.size, 1, none⟩ = some (.int .i64 p) := by simp
  have s2 : ((w.alloc (.cells #[.string s, .int .i64 (p), .int .i64 (n), .bool v, .bool c] 206)).alloc (.cells #[.int .i64 0, .int .i64 0] 202)).cell? ⟨w.heap.size, 2, none⟩ = some (.int .i64 n) := by simp
  have s3 : ((w.alloc (.cells #[.string s, .int .i64 (p), .int .i64 (n), .bool v, .bool c] 206)).alloc (.cells #[.int .i64 0, .int .i64 0] 202)).cell? ⟨w.heap.size, 3, none⟩ = some (.bool v) := by simp
  have s4 : ((w.alloc (.cells #[.string s, .int .i64 (p), .int .i64 (n), .bool v, .bool c] 206)).alloc (.cells #[.int .i64 0, .int .i64 0] 202)).cell? ⟨w.heap.size, 4, none⟩ = some (.bool c) := by simp
  have RB : Two (((w.alloc (.cells #[.string s, .int .i64 (p), .int .i64 (n), .bool v, .bool c] 206)).alloc (.cells #[.int .i64 0, .int .i64 0] 202))) (w.heap.size + 1) 0 0 := qN
  go_wp2_with fail
  go_region_held3 (fun ww => ww.cell? ⟨w.heap.size, 0, none⟩ = some (.string s) ∧ ww.cell? ⟨w.heap.size, 1, none⟩ = some (.int .i64 p) ∧ ww.cell? ⟨w.heap.size, 2, none⟩ = some (.int .i64 n) ∧ ww.cell? ⟨w.heap.size, 3, none⟩ = some (.bool v) ∧ ww.cell? ⟨w.heap.size, 4, none⟩ = some (.bool c)) (exact qK) (first | (go_at_call 246; refine (HEnd.out _).mono ?_; rintro r1 w1 ⟨rfl, h1⟩; obtain ⟨hc1, hf1, hz1⟩ := qb h1; (try simp at hz1); (try have ⟨hl1_0, hk1_0⟩ := qL w.heap.size w1.heap.size); (try have ⟨hl1_1, hk1_1⟩ := qL (w.heap.size + 1 + 1) w1.heap.size); (try have ⟨hl1_2, hk1_2⟩ := qL w1.heap.size w1.heap.size); have RB1 : Two w1 (w.heap.size + 1) (0) (0) := qTw; have ⟨RB1_0, RB1_1, RB1_z, RB1_l⟩ := RB1) | (go_at_call 195; refine (HLast.out _).mono ?_; rintro r2 w2 ⟨rfl, h2⟩; obtain ⟨hc2, hf2, hz2⟩ := qb h2; (try simp at hz2); (try have ⟨hl2_0, hk2_0⟩ := qL w.heap.size w2.heap.size); (try have ⟨hl2_1, hk2_1⟩ := qL (w.heap.size + 1 + 1) w2.heap.size); (try have ⟨hl2_2, hk2_2⟩ := qL w1.heap.size w2.heap.size); have RB2 : Two w2 (w.heap.size + 1) (0) (0) := qTw; have ⟨RB2_0, RB2_1, RB2_z, RB2_l⟩ := RB2))
  ·clear hc1 hf1 hc2 hf2
   exact qt20
  ·have Tb : Two w2 (w1.heap.size) 0 0 := Two.below (Two.new _ 0 0 _) h2
   have e0 := (Tb).c0
   have e1 := (Tb).c1
   have ez := (Tb).fz
   have el := (Tb).lt
   clear hc1 hf1 hc2 hf2
   exact qt20
  ·have Tb : Two w2 (w.heap.size + 1 + 1) 0 0 := by
    refine Two.below (Two.below (Two.drew ?_) h1) h2
    have := Two.new ((w.alloc (.cells #[.string s, .int .i64 (p), .int .i64 (n), .bool v, .bool c] 206)).alloc (.cells #[.int .i64 0, .int .i64 0] 202)) 0 0 128
    simpa using this
   have e0 := (Tb).c0
   have e1 := (Tb).c1
   have ez := (Tb).fz
   have el := (Tb).lt
   clear hc1 hf1 hc2 hf2
   exact qt20
theorem qt29 {P : Prop} (h : P := by
  have HS : Hid (X = NA) := by rw [Hid, HU.out]; simp
  clear HU
  go_wp2_with fail
  refine (HBs.out _).mono ?_
  rintro r2 w2 ⟨rfl, h2⟩
  obtain ⟨hc2, hf2, hz2⟩ := qb h2
  (try simp at hz2)
  have T2 : Two w2 (w1.heap.size) (JA) (JF) := qTw
  have ⟨T2_0, T2_1, T2_z, T2_l⟩ := T2
  have N : Two (w2.alloc (.cells #[.int .i64 NA, .int .i64 NF] 128)) w2.heap.size NA NF := Two.new _ _ _ _
  go_wp2_with fail
  refine (HE1.out _).mono ?_
  rintro r3 w3 ⟨rfl, h3⟩
  obtain ⟨hc3, hf3, hz3⟩ := qb h3
  (try simp at hz3)
  have T3 : Two w3 (w1.heap.size) (JA) (JF) := qTw
  have ⟨T3_0, T3_1, T3_z, T3_l⟩ := T3
  have N3 : Two w3 (w2.heap.size) (NA) (NF) := qTw
  have ⟨N3_0, N3_1, N3_z, N3_l⟩ := N3
  go_wp2_with fail
  refine (HE2.out _).mono ?_
  rintro r4 w4 ⟨rfl, h4⟩
  obtain ⟨hc4, hf4, hz4⟩ := qb h4
  (try simp at hz4)
  have T4 : Two w4 (w1.heap.size) (JA) (JF) := qTw
  have ⟨T4_0, T4_1, T4_z, T4_l⟩ := T4
  have N4 : Two w4 (w2.heap.size) (NA) (NF) := qTw
  have ⟨N4_0, N4_1, N4_z, N4_l⟩ := N4
  go_wp2
  all_goals
   first
    | (exact qV (.int .i64 NA) (by simp [results, results253, go_sem]) (ret_int (by rw [HS.out])))
 ) : P := h
theorem sParStep_down (s : ByteArray) (p : Nat) (w : World) (hs : s.size ≤ 1000) (hp : p ≤ s.size) :
  qC 253 #[.string s, .int .i64 p, .int .i64 1] w (.int .i64 (parStep s true p)) := by
 have hm := lin_lt hp
 have HL : qH 195 #[.string s, .int .i64 p] (.agg #[.int .i64 (att s (lin s p)), .int .i64 (fin s (att s (lin s p)))]) := by
  intro ww
  have := tLine_any s p p ww hs rfl hp
  rw [fin_eq hp, beg_eq hp] at this
  exact this
 have HX : Hid (Nib.parD s (lns s - 1 - lin s p) (lin s p + 1) = parStep s true p) := by rw [Hid]; unfold parStep; rw [if_pos rfl]
 generalize parStep s true p = X at *
 generalize lin s p = m at *
 go_enter func253, ntmps253
 go_wp2_with fail
 refine (HL.out _).mono ?_
 rintro e w1 ⟨rfl, h1⟩
 obtain ⟨hc1, hf1, hz1⟩ := qb h1
 try simp at hz1
 go_wp2
 go_loopw [8, 9] (fun _ _ wr => ∃ j : Nat, m ≤ j ∧ j < lns s ∧ Two wr w1.heap.size (att s j) (fin s (att s j)) ∧ Below w.heap.size w wr ∧ Hid (Nib.parD s (lns s - 1 - j) (j + 1) = X)) (fun _ _ wr => s.size + 1 - (intOf ((wr.cell? ⟨w1.heap.size, 0, none⟩).getD undef)).toNat)
 case atStart =>
  refine ⟨m, Nat.le_refl _, hm, Two.new _ _ _ _, ?_, HX⟩
  repeat exact qB
 case round =>
  clear HX
  obtain ⟨j, hj1, hj2, T, hB, hu⟩ := hrel
  have c0 := (T).c0
  have c1 := (T).c1
  have cz := (T).fz
  have cl := (T).lt
  have hz := hB.size
  have ha := (att_in hj2).1
  by_cases hne : j + 1 < lns s
  ·have hnf : fin s (att s j) + 1 = att s (j + 1) := rfl
   have hfg := fin_ge s (att s j)
   have hfl := fin_lt_of hne
   have HE1 : qH 185 #[.agg #[.int .i64 (att s (j + 1)), .int .i64 (fin s (att s (j + 1)))]] (.bool (emp s (att s (j + 1)))) := by
    intro ww; rw [emp_att hne]; exact tIsEmpty_any _ _ ww
   have HE2 : qH 185 #[.agg #[.int .i64 (att s j), .int .i64 (fin s (att s j))]] (.bool (emp s (att s j))) := by
    intro ww; rw [emp_att hj2]; exact tIsEmpty_any _ _ ww
   have HU : Hid (X = if (emp s (att s (j + 1)) && !emp s (att s j)) = true then att s (j + 1) else Nib.parD s (lns s - 1 - (j + 1)) (j + 1 + 1)) := by
    rw [Hid, ← hu.out, show lns s - 1 - j = (lns s - 1 - (j + 1)) + 1 by omega]; rfl
   clear hu
   have HBs : qH 223 #[.string s, .agg #[.int .i64 (att s j), .int .i64 (fin s (att s j))], .int .i64 1] (.tuple #[.agg #[.int .i64 (att s (j + 1)), .int .i64 (fin s (att s (j + 1)))], .bool true]) := fun ww => tBeside_down s _ _ _ j ww hs rfl rfl rfl hne
   have hlt1 : att s j < att s (j + 1) := by omega
   have hlt2 : att s (j + 1) ≤ s.size := by omega
   clear hnf
   generalize emp s (att s (j + 1)) = E1 at *
   generalize emp s (att s j) = E2 at *
   generalize hNF : fin s (att s (j + 1)) = NF at *
   generalize hNA : att s (j + 1) = NA at *
   have HNA : Hid (att s (j + 1) = NA) := hNA
   have HNF : Hid (fin s NA = NF) := hNF
   clear hNA hNF
   generalize hJF : fin s (att s j) = JF at *
   generalize hJA : att s j = JA at *
   clear hJF hJA
   cases E1 with
   | false =>
    have HS : Hid (Nib.parD s (lns s - 1 - (j + 1)) (j + 1 + 1) = X) := by rw [Hid, HU.out]; simp
    clear HU
    go_wp2_with fail
    refine (HBs.out _).mono ?_
    rintro r2 w2 ⟨rfl, h2⟩
    obtain ⟨hc2, hf2, hz2⟩ := qb h2
    (try simp at hz2)
    have T2 : Two w2 (w1.heap.size) (JA) (JF) := qTw
    have ⟨T2_0, T2_1, T2_z, T2_l⟩ := T2
    have N : Two (w2.alloc (.cells #[.int .i64 NA, .int .i64 NF] 128)) w2.heap.size NA NF := Two.new _ _ _ _
    go_wp2_with fail
    refine (HE1.out _).mono ?_
    rintro r3 w3 ⟨rfl, h3⟩
    obtain ⟨hc3, hf3, hz3⟩ := qb h3
    (try simp at hz3)
    have T3 : Two w3 (w1.heap.size) (JA) (JF) := qTw
    have ⟨T3_0, T3_1, T3_z, T3_l⟩ := T3
    have N3 : Two w3 (w2.heap.size) (NA) (NF) := qTw
    have ⟨N3_0, N3_1, N3_z, N3_l⟩ := N3
    have hNA := HNA.out
    have hNF := HNF.out
    clear hc2 hf2 hc3 hf3
    go_wp2
    go_round
    case rel =>
     refine ⟨j + 1, by omega, hne, ?_, ?_, HS⟩
     ·rw [hNA, hNF]
      exact Two.set1 (Two.set0 T3 _) _
     ·repeat exact qB
    case measure =>
     rw [(Two.set1 (Two.set0 T3 NA) NF).c0, c0]
     simp [intOf] <;> omega
   | true =>
    cases E2 with
    | false =>
     exact qt29
    | true =>
     have HS : Hid (Nib.parD s (lns s - 1 - (j + 1)) (j + 1 + 1) = X) := by rw [Hid, HU.out]; simp
     clear HU
     go_wp2_with fail
     refine (HBs.out _).mono ?_
     rintro r2 w2 ⟨rfl, h2⟩
     obtain ⟨hc2, hf2, hz2⟩ := qb h2
     (try simp at hz2)
     have T2 : Two w2 (w1.heap.size) (JA) (JF) := qTw
     have ⟨T2_0, T2_1, T2_z, T2_l⟩ := T2
     have N : Two (w2.alloc (.cells #[.int .i64 NA, .int .i64 NF] 128)) w2.heap.size NA NF := Two.new _ _ _ _
     go_wp2_with fail
     refine (HE1.out _).mono ?_
     rintro r3 w3 ⟨rfl, h3⟩
     obtain ⟨hc3, hf3, hz3⟩ := qb h3
     (try simp at hz3)
     have T3 : Two w3 (w1.heap.size) (JA) (JF) := qTw
     have ⟨T3_0, T3_1, T3_z, T3_l⟩ := T3
     have N3 : Two w3 (w2.heap.size) (NA) (NF) := qTw
     have ⟨N3_0, N3_1, N3_z, N3_l⟩ := N3
     go_wp2_with fail
     refine (HE2.out _).mono ?_
     rintro r4 w4 ⟨rfl, h4⟩
     obtain ⟨hc4, hf4, hz4⟩ := qb h4
     (try simp at hz4)
     have T4 : Two w4 (w1.heap.size) (JA) (JF) := qTw
     have ⟨T4_0, T4_1, T4_z, T4_l⟩ := T4
     have N4 : Two w4 (w2.heap.size) (NA) (NF) := qTw
     have ⟨N4_0, N4_1, N4_z, N4_l⟩ := N4
     have hNA := HNA.out
     have hNF := HNF.out
     clear hc2 hf2 hc3 hf3 hc4 hf4
     go_wp2
     go_round
     case rel =>
      refine ⟨j + 1, by omega, hne, ?_, ?_, HS⟩
      ·rw [hNA, hNF]
       exact Two.set1 (Two.set0 T4 _) _
      ·repeat exact qB
     case measure =>
      rw [(Two.set1 (Two.set0 T4 NA) NF).c0, c0]
      simp [intOf] <;> omega
  ·have HS : Hid (X = s.size) := by
    rw [Hid, ← hu.out, show lns s - 1 - j = 0 by omega]; rfl
   clear hu
   have hF := fin_last (s := s) (m := j) qo
   have HBs : qH 223 #[.string s, .agg #[.int .i64 (att s j), .int .i64 (fin s (att s j))], .int .i64 1] (.tuple #[.agg #[.int .i64 (0), .int .i64 (0)], .bool false]) := fun ww => tBeside_none s _ _ _ ww hs (Or.inl rfl) (fun _ => by omega) (fun h => by omega)
   clear hF
   generalize fin s (att s j) = JF at *
   generalize att s j = JA at *
   go_wp2_with fail
   refine (HBs.out _).mono ?_
   rintro r2 w2 ⟨rfl, h2⟩
   obtain ⟨hc2, hf2, hz2⟩ := qb h2
   (try simp at hz2)
   have T2 : Two w2 (w1.heap.size) (JA) (JF) := qTw
   have ⟨T2_0, T2_1, T2_z, T2_l⟩ := T2
   go_wp2_with fail
   refine (tEnd_any s _).mono ?_
   rintro e w' ⟨rfl, rfl⟩
   go_wp2
   all_goals
    first
     | (exact qV (.int .i64 s.size) (by simp [results, results253, go_sem]) (ret_int (by rw [HS.out])))
theorem sParStep_up (s : ByteArray) (p : Nat) (w : World) (hs : s.size ≤ 1000) (hp : p ≤ s.size) :
  qC 253 #[.string s, .int .i64 p, .int .i64 (-1)] w (.int .i64 (parStep s false p)) := by
 have hm := lin_lt hp
 have HL : qH 195 #[.string s, .int .i64 p] (.agg #[.int .i64 (att s (lin s p)), .int .i64 (fin s (att s (lin s p)))]) := by
  intro ww
  have := tLine_any s p p ww hs rfl hp
  rw [fin_eq hp, beg_eq hp] at this
  exact this
 have HX : Hid (parU s (lin s p) = parStep s false p) := by rw [Hid]; unfold parStep; rw [if_neg qi]
 generalize parStep s false p = X at *
 generalize lin s p = m at *
 go_enter func253, ntmps253
 go_wp2_with fail
 refine (HL.out _).mono ?_
 rintro e w1 ⟨rfl, h1⟩
 obtain ⟨hc1, hf1, hz1⟩ := qb h1
 try simp at hz1
 go_wp2
 go_loopw [8, 9] (fun _ _ wr => ∃ j : Nat, j ≤ m ∧ j < lns s ∧ Two wr w1.heap.size (att s j) (fin s (att s j)) ∧ Below w.heap.size w wr ∧ Hid (parU s j = X)) (fun _ _ wr => (intOf ((wr.cell? ⟨w1.heap.size, 0, none⟩).getD undef)).toNat)
 case atStart =>
  refine ⟨m, Nat.le_refl _, hm, Two.new _ _ _ _, ?_, HX⟩
  repeat exact qB
 case round =>
  clear HX
  obtain ⟨j, hj1, hj2, T, hB, hu⟩ := hrel
  have c0 := (T).c0
  have c1 := (T).c1
  have cz := (T).fz
  have cl := (T).lt
  have hz := hB.size
  have ha := (att_in hj2).1
  by_cases hne : 0 < j
  ·have hne2 : j - 1 < lns s := by omega
   have hnf : fin s (att s (j - 1)) + 1 = att s j := by
    obtain ⟨k, rfl⟩ : ∃ k, j = k + 1 := ⟨j - 1, by omega⟩
    rfl
   have hfg := fin_ge s (att s (j - 1))
   have HE1 : qH 185 #[.agg #[.int .i64 (att s (j - 1)), .int .i64 (fin s (att s (j - 1)))]] (.bool (emp s (att s (j - 1)))) := by
    intro ww; rw [emp_att hne2]; exact tIsEmpty_any _ _ ww
   have HE2 : qH 185 #[.agg #[.int .i64 (att s j), .int .i64 (fin s (att s j))]] (.bool (emp s (att s j))) := by
    intro ww; rw [emp_att hj2]; exact tIsEmpty_any _ _ ww
   have HU : Hid (X = if (emp s (att s (j - 1)) && !emp s (att s j)) = true then att s (j - 1) else parU s (j - 1)) := by
    rw [Hid, ← hu.out]
    obtain ⟨k, rfl⟩ : ∃ k, j = k + 1 := ⟨j - 1, by omega⟩
    rfl
   clear hu
   have HBs : qH 223 #[.string s, .agg #[.int .i64 (att s j), .int .i64 (fin s (att s j))], .int .i64 (-1)] (.tuple #[.agg #[.int .i64 (att s (j - 1)), .int .i64 (fin s (att s (j - 1)))], .bool true]) := fun ww => tBeside_up s _ _ _ j ww hs rfl hj2 rfl hne
   have hlt1 : att s (j - 1) < att s j := by omega
   clear hnf
   generalize emp s (att s (j - 1)) = E1 at *
   generalize emp s (att s j) = E2 at *
   generalize hNF : fin s (att s (j - 1)) = NF at *
   generalize hNA : att s (j - 1) = NA at *
   have HNA : Hid (att s (j - 1) = NA) := hNA
   have HNF : Hid (fin s NA = NF) := hNF
   clear hNA hNF
   generalize hJF : fin s (att s j) = JF at *
   generalize hJA : att s j = JA at *
   clear hJF hJA
   cases E1 with
   | false =>
    have HS : Hid (parU s (j - 1) = X) := by rw [Hid, HU.out]; simp
    clear HU
    go_wp2_with fail
    refine (HBs.out _).mono ?_
    rintro r2 w2 ⟨rfl, h2⟩
    obtain ⟨hc2, hf2, hz2⟩ := qb h2
    (try simp at hz2)
    have T2 : Two w2 (w1.heap.size) (JA) (JF) := qTw
    have ⟨T2_0, T2_1, T2_z, T2_l⟩ := T2
    have N : Two (w2.alloc (.cells #[.int .i64 NA, .int .i64 NF] 128)) w2.heap.size NA NF := Two.new _ _ _ _
    go_wp2_with fail
    refine (HE1.out _).mono ?_
    rintro r3 w3 ⟨rfl, h3⟩
    obtain ⟨hc3, hf3, hz3⟩ := qb h3
    (try simp at hz3)
    have T3 : Two w3 (w1.heap.size) (JA) (JF) := qTw
    have ⟨T3_0, T3_1, T3_z, T3_l⟩ := T3
    have N3 : Two w3 (w2.heap.size) (NA) (NF) := qTw
    have ⟨N3_0, N3_1, N3_z, N3_l⟩ := N3
    have hNA := HNA.out
    have hNF := HNF.out
    clear hc2 hf2 hc3 hf3
    go_wp2
    go_round
    case rel =>
     refine ⟨j - 1, by omega, hne2, ?_, ?_, HS⟩
     ·rw [hNA, hNF]
      exact Two.set1 (Two.set0 T3 _) _
     ·repeat exact qB
    case measure =>
     rw [(Two.set1 (Two.set0 T3 NA) NF).c0, c0]
     simp [intOf] <;> omega
   | true =>
    cases E2 with
    | false =>
     exact qt29
    | true =>
     have HS : Hid (parU s (j - 1) = X) := by rw [Hid, HU.out]; simp
     clear HU
     go_wp2_with fail
     refine (HBs.out _).mono ?_
     rintro r2 w2 ⟨rfl, h2⟩
     obtain ⟨hc2, hf2, hz2⟩ := qb h2
     (try simp at hz2)
     have T2 : Two w2 (w1.heap.size) (JA) (JF) := qTw
     have ⟨T2_0, T2_1, T2_z, T2_l⟩ := T2
     have N : Two (w2.alloc (.cells #[.int .i64 NA, .int .i64 NF] 128)) w2.heap.size NA NF := Two.new _ _ _ _
     go_wp2_with fail
     refine (HE1.out _).mono ?_
     rintro r3 w3 ⟨rfl, h3⟩
     obtain ⟨hc3, hf3, hz3⟩ := qb h3
     (try simp at hz3)
     have T3 : Two w3 (w1.heap.size) (JA) (JF) := qTw
     have ⟨T3_0, T3_1, T3_z, T3_l⟩ := T3
     have N3 : Two w3 (w2.heap.size) (NA) (NF) := qTw
     have ⟨N3_0, N3_1, N3_z, N3_l⟩ := N3
     go_wp2_with fail
     refine (HE2.out _).mono ?_
     rintro r4 w4 ⟨rfl, h4⟩
     obtain ⟨hc4, hf4, hz4⟩ := qb h4
     (try simp at hz4)
     have T4 : Two w4 (w1.heap.size) (JA) (JF) := qTw
     have ⟨T4_0, T4_1, T4_z, T4_l⟩ := T4
     have N4 : Two w4 (w2.heap.size) (NA) (NF) := qTw
     have ⟨N4_0, N4_1, N4_z, N4_l⟩ := N4
     have hNA := HNA.out
     have hNF := HNF.out
     clear hc2 hf2 hc3 hf3 hc4 hf4
     go_wp2
     go_round
     case rel =>
      refine ⟨j - 1, by omega, hne2, ?_, ?_, HS⟩
      ·rw [hNA, hNF]
       exact Two.set1 (Two.set0 T4 _) _
      ·repeat exact qB
     case measure =>
      rw [(Two.set1 (Two.set0 T4 NA) NF).c0, c0]
      simp [intOf] <;> omega
  ·have HS : Hid (X = 0) := by
    rw [Hid, ← hu.out, show j = 0 by omega]; rfl
   clear hu
   have hF : att s j = 0 := by rw [show j = 0 by omega]; rfl
   have HBs : qH 223 #[.string s, .agg #[.int .i64 (att s j), .int .i64 (fin s (att s j))], .int .i64 (-1)] (.tuple #[.agg #[.int .i64 (0), .int .i64 (0)], .bool false]) := fun ww => tBeside_none s _ _ _ ww hs (Or.inr rfl) (fun h => by omega) (fun _ => by omega)
   clear hF
   generalize fin s (att s j) = JF at *
   generalize att s j = JA at *
   go_wp2_with fail
   refine (HBs.out _).mono ?_
   rintro r2 w2 ⟨rfl, h2⟩
   obtain ⟨hc2, hf2, hz2⟩ := qb h2
   (try simp at hz2)
   have T2 : Two w2 (w1.heap.size) (JA) (JF) := qTw
   have ⟨T2_0, T2_1, T2_z, T2_l⟩ := T2
   go_wp2
   all_goals
    first
     | (exact qV (.int .i64 0) (by simp [results, results253, go_sem]) (ret_int (by rw [HS.out]; rfl)))
theorem qt32 {P : Prop} (h : P := by
  go_wp2_with fail
  refine (HL.out _).mono ?_
  rintro r2 w2 ⟨rfl, h2⟩
  obtain ⟨hc2, hf2, hz2⟩ := qb h2
  (try simp at hz2)
  have RB2 : Two w2 (w.heap.size + 1) (0) (0) := qTw
  have ⟨RB2_0, RB2_1, RB2_z, RB2_l⟩ := RB2
  go_wp2_with fail
  refine (HT.out _).mono ?_
  rintro r3 w3 ⟨rfl, h3⟩
  obtain ⟨hc3, hf3, hz3⟩ := qb h3
  (try simp at hz3)
  have RB3 : Two w3 (w.heap.size + 1) (0) (0) := qTw
  have ⟨RB3_0, RB3_1, RB3_z, RB3_l⟩ := RB3
  have F3 := (F.below h2).below h3
  have g0 := F3.c0; have g1 := F3.c1; have g2 := F3.c2; have g3 := F3.c3; have g4 := F3.c4
  clear hc2 hf2 hc3 hf3
  go_wp2_with fail
  refine (HU.out _).mono ?_
  rintro r4 w4 ⟨rfl, h4⟩
  obtain ⟨hc4, hf4, hz4⟩ := qb h4
  (try simp at hz4)
  have RB4 : Two w4 (w.heap.size + 1) (0) (0) := qTw
  have ⟨RB4_0, RB4_1, RB4_z, RB4_l⟩ := RB4
  go_wp2
  all_goals
   first
    | (exact qV (.tuple #[.agg #[.int .i64 (wayX (R)), .int .i64 (wayK (R))], .bool (wayZ (R))]) (by simp [results, results211, go_sem, RB4_0, RB4_1, RB4_z, RB4_l]) rfl)
 ) : P := h
theorem qt74 {P : Prop} (h : P := by
  have ⟨F2_0, F2_1, F2_2, F2_3, F2_4, F2_z, F2_l⟩ := F2
  have RB2 : Two w2 (w.heap.size + 1) (0) (0) := qTw
  have ⟨RB2_0, RB2_1, RB2_z, RB2_l⟩ := RB2
  go_wp2
  go_round
  case rel =>
   refine ⟨k + 1, by omega, by rw [hA], by go_num, F2, RB2, ?_⟩
   repeat exact qB
  case measure => simp [intOf] <;> omega
 ) : P := h
theorem qt35 {P : Prop} (h : P := by
  go_wp2_with fail
  refine (HS.out _).mono ?_
  rintro r2 w2 ⟨rfl, h2⟩
  obtain ⟨hc2, hf2, hz2⟩ := qb h2
  (try simp at hz2)
  have F2 : Five w2 (w.heap.size) s p n v c := qF
  exact qt74
 ) : P := h
theorem sToPar_any (s : ByteArray) (p n : Nat) (v c down : Bool) (d : Int) (w : World) (hs : s.size ≤ 1000) (hp : p ≤ s.size) (hn : n ≤ 99) (hd : d = if down = true then 1 else -1) :
  qC 211 #[.agg #[.string s, .int .i64 (p), .int .i64 (n), .bool v, .bool c], .int .i64 d] w (.tuple #[.agg #[.int .i64 (wayX (((parQ s p (max n 1) down v : Int), 0, (parQ s p (max n 1) down v : Int) == (p : Int)))), .int .i64 (wayK (((parQ s p (max n 1) down v : Int), 0, (parQ s p (max n 1) down v : Int) == (p : Int))))], .bool (wayZ (((parQ s p (max n 1) down v : Int), 0, (parQ s p (max n 1) down v : Int) == (p : Int))))]) := by
 have HP : Hid (∀ (q : Nat), q ≤ s.size → ∀ ww, qC 253 #[.string s, .int .i64 q, .int .i64 d] ww (.int .i64 (parStep s down q))) := by
  intro q hq ww
  cases down with
  | true => rw [hd]; exact sParStep_down s q ww hs hq
  | false => rw [hd]; exact sParStep_up s q ww hs hq
 clear hd
 have HN : qH 241 #[.agg #[.string s, .int .i64 (p), .int .i64 (n), .bool v, .bool c]] (.int .i64 ((max n 1 : Nat) : Int)) := by
  exact qt46
 have hN2 : max n 1 ≤ 99 := by omega
 generalize max n 1 = N at *
 have HU : qH 240 #[.agg #[.string s, .int .i64 (p), .int .i64 (n), .bool v, .bool c], .int .i64 (parQ s p N down v : Nat), .int .i64 0] (.tuple #[.agg #[.int .i64 (wayX (((parQ s p N down v : Int), 0, (parQ s p N down v : Int) == (p : Int)))), .int .i64 (wayK (((parQ s p N down v : Int), 0, (parQ s p N down v : Int) == (p : Int))))], .bool (wayZ (((parQ s p N down v : Int), 0, (parQ s p N down v : Int) == (p : Int))))]) := fun ww => sUnless_any s p n _ 0 v c ww
 generalize (((parQ s p N down v : Nat) : Int), (0 : Int), (((parQ s p N down v : Nat) : Int) == (p : Int))) = R at *
 go_enter func211, ntmps211
 have F : Five ((w.alloc (.cells #[.string s, .int .i64 (p), .int .i64 (n), .bool v, .bool c] 206)).alloc (.cells #[.int .i64 0, .int .i64 0] 202)) w.heap.size s p n v c := Five.alloc (Five.new _ _ _ _ _ _ _) _
 have RB : Two ((w.alloc (.cells #[.string s, .int .i64 (p), .int .i64 (n), .bool v, .bool c] 206)).alloc (.cells #[.int .i64 0, .int .i64 0] 202)) (w.heap.size + 1) 0 0 := qN
 go_wp2_with fail
 refine (HN.out _).mono ?_
 rintro r1 w1 ⟨rfl, h1⟩
 obtain ⟨hc1, hf1, hz1⟩ := qb h1
 (try simp at hz1)
 have F1 : Five w1 (w.heap.size) s p n v c := qF
 have ⟨F1_0, F1_1, F1_2, F1_3, F1_4, F1_z, F1_l⟩ := F1
 have RB1 : Two w1 (w.heap.size + 1) (0) (0) := qTw
 have ⟨RB1_0, RB1_1, RB1_z, RB1_l⟩ := RB1
 go_wp2
 go_loopw [6, 11] (fun q i wr => ∃ k : Nat, k ≤ N ∧ q = .int .i64 (itr (parStep s down) k p : Nat) ∧ i = .int .i64 k ∧ Five wr w.heap.size s p n v c ∧ Two wr (w.heap.size + 1) 0 0 ∧ Below w.heap.size w wr) (fun _ i _ => N - (intOf i).toNat)
 case atStart =>
  refine ⟨0, by omega, rfl, rfl, F1, RB1, ?_⟩
  repeat exact qB
 case round =>
  clear F RB h1 hc1 hf1 F1_0 F1_1 F1_2 F1_3 F1_4 F1_z F1_l RB1_0 RB1_1 RB1_z RB1_l
  obtain ⟨k, hk, rfl, rfl, F, RB, hB⟩ := hrel
  have hq := itr_p_le (down := down) hp k
  have ⟨f0, f1, f2, f3, f4, fz, fl⟩ := F
  have r0 := (RB).c0
  have r1 := (RB).c1
  have rz := (RB).fz
  have rl := (RB).lt
  have hzz := hB.size
  by_cases hlt : k < N
  ·have HS : qH 253 #[.string s, .int .i64 (itr (parStep s down) k p : Nat), .int .i64 d] (.int .i64 (itr (parStep s down) (k + 1) p : Nat)) := fun ww => HP.out _ hq ww
   generalize hA : itr (parStep s down) (k + 1) p = A at *
   exact qt35
  ·have ek : k = N := by omega
   subst ek
   cases v with
   | true =>
    have HV : parQ s p k down true = itr (parStep s down) k p := by unfold parQ; rw [if_pos rfl]
    rw [HV] at HU
    generalize itr (parStep s down) k p = A at *
    go_wp2_with fail
    refine (HU.out _).mono ?_
    rintro r2 w2 ⟨rfl, h2⟩
    obtain ⟨hc2, hf2, hz2⟩ := qb h2
    (try simp at hz2)
    have RB2 : Two w2 (w.heap.size + 1) (0) (0) := qTw
    have ⟨RB2_0, RB2_1, RB2_z, RB2_l⟩ := RB2
    go_wp2
    all_goals
     first
      | (exact qV (.tuple #[.agg #[.int .i64 (wayX (R)), .int .i64 (wayK (R))], .bool (wayZ (R))]) (by simp [results, results211, go_sem, RB2_0, RB2_1, RB2_z, RB2_l]) rfl)
   | false =>
    have HV : ((parQ s p k down false : Nat) : Int) = if ((lst s (itr (parStep s down) k p) : Nat) : Int) < ((itr (parStep s down) k p : Nat) : Int) then ((lst s (itr (parStep s down) k p) : Nat) : Int) else ((itr (parStep s down) k p : Nat) : Int) := by
     unfold parQ; rw [if_neg qi]; unfold clm; split <;> split <;> first | rfl | omega
    rw [HV] at HU
    clear HV
    have hfl := fin_le hq
    have HL : qH 195 #[.string s, .int .i64 (itr (parStep s down) k p : Nat)] (.agg #[.int .i64 (beg s (itr (parStep s down) k p)), .int .i64 (fin s (itr (parStep s down) k p))]) := fun ww => tLine_any s _ _ ww hs rfl hq
    have HT : qH 202 #[.agg #[.int .i64 (beg s (itr (parStep s down) k p)), .int .i64 (fin s (itr (parStep s down) k p))]] (.int .i64 (lst s (itr (parStep s down) k p) : Nat)) := by
     intro ww; rw [lst_max]; exact tLast_any _ _ ww qo
    generalize lst s (itr (parStep s down) k p) = L at *
    generalize beg s (itr (parStep s down) k p) = B at *
    generalize fin s (itr (parStep s down) k p) = E at *
    generalize itr (parStep s down) k p = A at *
    by_cases hLA : (L : Int) < (A : Int)
    ·rw [if_pos hLA] at HU
     exact qt32
    ·rw [if_neg hLA] at HU
     have hLA' : (A : Int) ≤ (L : Int) := by omega
     clear hLA
     exact qt32
