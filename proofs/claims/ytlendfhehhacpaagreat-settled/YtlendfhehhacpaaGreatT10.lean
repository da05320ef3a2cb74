/- A part. -/
import Derived.Test.YtlendfhehhacpaaGreatT07
set_option linter.unusedVariables false
set_option linter.unusedSimpArgs false
set_option maxRecDepth 100000
set_option maxHeartbeats 8000000
namespace Go.Proofs.YtlendfhehhacpaaGreat
open Go.RowKit Nib Tryz
theorem sInLine_0 (s : ByteArray) (p n : Nat) (v c : Bool) (w : World) (hs : s.size ≤ 1000) (hp : p ≤ s.size) :
  qC 205 #[.agg #[.string s, .int .i64 (p), .int .i64 (n), .bool v, .bool c], .int .u8 48] w (.tuple #[.agg #[.int .i64 (wayX (((beg s p : Int), 0, false))), .int .i64 (wayK (((beg s p : Int), 0, false)))], .bool (wayZ (((beg s p : Int), 0, false)))]) := by
 have HL : qH 239 #[.agg #[.string s, .int .i64 (p), .int .i64 (n), .bool v, .bool c]] (.agg #[.int .i64 (beg s p), .int .i64 (fin s p)]) := fun ww => sLine_any s p n v c p ww hs rfl hp
 rw [wayX_f, wayK_f, wayZ_f]
 generalize beg s p = B at *
 generalize fin s p = F at *
 go_enter func205, ntmps205
 go_wp2_with fail
 refine (HL.out _).mono ?_
 rintro e w1 ⟨rfl, h1⟩
 obtain ⟨hc1, hf1, hz1⟩ := qb h1
 try simp at hz1
 have hb1_0 := fun o => hc1 (w.heap.size) o qO
 have fb1_0 := fun o => hf1 (w.heap.size) o qO
 have ⟨hg1_0, hh1_0⟩ := qL w.heap.size w1.heap.size
 have hb1_1 := fun o => hc1 (w.heap.size + 1) o qO
 have fb1_1 := fun o => hf1 (w.heap.size + 1) o qO
 have ⟨hg1_1, hh1_1⟩ := qL (w.heap.size + 1) w1.heap.size
 go_wp2
 all_goals
  first
   | (exact qV (.tuple #[.agg #[.int .i64 B, .int .i64 0], .bool true]) (by simp [results, results205, go_sem, hb1_1, hg1_1]) rfl)
theorem sInLine_hat (s : ByteArray) (p n : Nat) (v c : Bool) (w : World) (hs : s.size ≤ 1000) (hp : p ≤ s.size) :
  qC 205 #[.agg #[.string s, .int .i64 (p), .int .i64 (n), .bool v, .bool c], .int .u8 94] w (.tuple #[.agg #[.int .i64 (wayX (((frs s p : Int), 0, false))), .int .i64 (wayK (((frs s p : Int), 0, false)))], .bool (wayZ (((frs s p : Int), 0, false)))]) := by
 have HL : qH 239 #[.agg #[.string s, .int .i64 (p), .int .i64 (n), .bool v, .bool c]] (.agg #[.int .i64 (beg s p), .int .i64 (fin s p)]) := fun ww => sLine_any s p n v c p ww hs rfl hp
 have HF : qH 243 #[.string s, .agg #[.int .i64 (beg s p), .int .i64 (fin s p)]] (.int .i64 (frs s p)) := fun ww => tFirst_any s _ _ p ww hs hp rfl rfl
 rw [wayX_f, wayK_f, wayZ_f]
 generalize frs s p = R at *
 generalize beg s p = B at *
 generalize fin s p = F at *
 go_enter func205, ntmps205
 go_wp2_with fail
 refine (HL.out _).mono ?_
 rintro e w1 ⟨rfl, h1⟩
 obtain ⟨hc1, hf1, hz1⟩ := qb h1
 try simp at hz1
 have hb1_0 := fun o => hc1 (w.heap.size) o qO
 have fb1_0 := fun o => hf1 (w.heap.size) o qO
 have ⟨hg1_0, hh1_0⟩ := qL w.heap.size w1.heap.size
 have hb1_1 := fun o => hc1 (w.heap.size + 1) o qO
 have fb1_1 := fun o => hf1 (w.heap.size + 1) o qO
 have ⟨hg1_1, hh1_1⟩ := qL (w.heap.size + 1) w1.heap.size
 go_wp2_with fail
 refine (HF.out _).mono ?_
 rintro e w2 ⟨rfl, h2⟩
 obtain ⟨hc2, hf2, hz2⟩ := qb h2
 try simp at hz2
 have hb2_0 := fun o => hc2 (w.heap.size) o qO
 have fb2_0 := fun o => hf2 (w.heap.size) o qO
 have ⟨hg2_0, hh2_0⟩ := qL w.heap.size w2.heap.size
 have hb2_1 := fun o => hc2 (w.heap.size + 1) o qO
 have fb2_1 := fun o => hf2 (w.heap.size + 1) o qO
 have ⟨hg2_1, hh2_1⟩ := qL (w.heap.size + 1) w2.heap.size
 go_wp2
 all_goals
  first
   | (exact qV (.tuple #[.agg #[.int .i64 R, .int .i64 0], .bool true]) (by simp [results, results205, go_sem, hb1_1, hg1_1, hb2_1, hg2_1]) rfl)
theorem qt45 {P : Prop} (h : P := by
  intro ww
  have := sNumber_any s p n v c ww
  rw [show max (n : Int) 1 = ((max n 1 : Nat) : Int) by omega] at this
  exact this
 ) : P := h
theorem sLineEnd_any (s : ByteArray) (p n : Nat) (v c : Bool) (w : World) (hs : s.size ≤ 1000) (hp : p ≤ s.size) (hn : n ≤ 99) :
  qC 244 #[.agg #[.string s, .int .i64 (p), .int .i64 (n), .bool v, .bool c]] w (.tuple #[.agg #[.int .i64 (wayX (wayEol s p (max n 1))), .int .i64 (wayK (wayEol s p (max n 1)))], .bool (wayZ (wayEol s p (max n 1)))]) := by
 have hm := lin_lt hp
 have HL : qH 239 #[.agg #[.string s, .int .i64 (p), .int .i64 (n), .bool v, .bool c]] (.agg #[.int .i64 (att s (lin s p)), .int .i64 (fin s (att s (lin s p)))]) := by
  intro ww
  have := sLine_any s p n v c p ww hs rfl hp
  rw [fin_eq hp, beg_eq hp] at this
  exact this
 have HN : qH 241 #[.agg #[.string s, .int .i64 (p), .int .i64 (n), .bool v, .bool c]] (.int .i64 ((max n 1 : Nat) : Int)) := by
  exact qt45
 have hN1 : 1 ≤ max n 1 := by omega
 have hN2 : max n 1 ≤ 99 := by omega
 generalize max n 1 = N at *
 have HD : qH 180 #[.string s, .agg #[.int .i64 (att s (lin s p)), .int .i64 (fin s (att s (lin s p)))], .int .i64 ((N : Int) - 1), .int .i64 1] (.tuple #[.agg #[.int .i64 (att s (min (lin s p + (N - 1)) (lns s - 1))), .int .i64 (fin s (att s (min (lin s p + (N - 1)) (lns s - 1))))], .int .i64 ((min (N - 1) (lns s - 1 - lin s p) : Nat) : Int)]) := by
  intro ww
  exact tFurther_down s _ _ _ _ (lin s p) (N - 1) ww hs hm rfl rfl qo rfl qo
 have hR : min (lin s p + (N - 1)) (lns s - 1) < lns s := by omega
 have hF := fin_le (att_in hR).1
 have HZ : Hid (wayEol s p N = if ((min (N - 1) (lns s - 1 - lin s p) : Nat) : Int) < (N : Int) - 1 then (0, 0, true) else (((lst s (att s (min (lin s p + (N - 1)) (lns s - 1))) : Nat) : Int), if (((att s (min (lin s p + (N - 1)) (lns s - 1)) : Nat) : Int) == ((fin s (att s (min (lin s p + (N - 1)) (lns s - 1))) : Nat) : Int)) = true then 0 else 1, false)) := by
  rw [Hid]; unfold wayEol
  by_cases h : (lns s : Int) ≤ (lin s p : Int) + N - 1
  ·rw [if_pos h, if_pos qo]
  ·have hx : ¬ ((min (N - 1) (lns s - 1 - lin s p) : Nat) : Int) < (N : Int) - 1 := by omega
   rw [if_neg h]
   simp only [hx, if_false]
   rw [show min (lin s p + (N - 1)) (lns s - 1) = lin s p + N - 1 by omega, emp_lst qo]
 have HM : Hid (((lst s (att s (min (lin s p + (N - 1)) (lns s - 1))) : Nat) : Int) = max ((att s (min (lin s p + (N - 1)) (lns s - 1)) : Nat) : Int) (((fin s (att s (min (lin s p + (N - 1)) (lns s - 1))) : Nat) : Int) - 1)) := by
  rw [Hid, lst_max, beg_att hR]
 rw [HM.out] at HZ
 clear HM
 generalize wayEol s p N = W at *
 generalize min (lin s p + (N - 1)) (lns s - 1) = R at *
 generalize min (N - 1) (lns s - 1 - lin s p) = G at *
 generalize fin s (att s R) = RF at *
 generalize att s R = RA at *
 generalize fin s (att s (lin s p)) = LF at *
 generalize att s (lin s p) = LA at *
 clear hR
 have HE : qH 185 #[.agg #[.int .i64 (RA), .int .i64 (RF)]] (.bool ((RA : Int) == (RF : Int))) := fun ww => tIsEmpty_any _ _ ww
 have HT : qH 202 #[.agg #[.int .i64 (RA), .int .i64 (RF)]] (.int .i64 (max (RA : Int) ((RF : Int) - 1))) := fun ww => tLast_any _ _ ww qo
 generalize HM2 : max (RA : Int) ((RF : Int) - 1) = M at *
 by_cases hG : (G : Int) < (N : Int) - 1
 ·rw [if_pos hG] at HZ
  rw [HZ.out, wayX_t, wayK_t, wayZ_t]
  clear HZ
  go_enter func244, ntmps244
  go_wp2_with fail
  refine (HN.out _).mono ?_
  rintro e w1 ⟨rfl, h1⟩
  obtain ⟨hc1, hf1, hz1⟩ := qb h1
  try simp at hz1
  have hb1_0 := fun o => hc1 (w.heap.size) o qO
  have fb1_0 := fun o => hf1 (w.heap.size) o qO
  have ⟨hg1_0, hh1_0⟩ := qL w.heap.size w1.heap.size
  have hb1_1 := fun o => hc1 (w.heap.size + 1) o qO
  have fb1_1 := fun o => hf1 (w.heap.size + 1) o qO
  have ⟨hg1_1, hh1_1⟩ := qL (w.heap.size + 1) w1.heap.size
  have s0 : w1.cell? ⟨w.heap.size, 0, none⟩ = some (.string s) := by rw [hb1_0]; simp
  have s1 : w1.cell? ⟨w.heap.size, 1, none⟩ = some (.int .i64 p) := by rw [hb1_0]; simp
  have s2 : w1.cell? ⟨w.heap.size, 2, none⟩ = some (.int .i64 n) := by rw [hb1_0]; simp
  have s3 : w1.cell? ⟨w.heap.size, 3, none⟩ = some (.bool v) := by rw [hb1_0]; simp
  have s4 : w1.cell? ⟨w.heap.size, 4, none⟩ = some (.bool c) := by rw [hb1_0]; simp
  go_wp2_with fail
  go_region_held3 (fun ww => ww.cell? ⟨w.heap.size, 0, none⟩ = some (.string s) ∧ ww.cell? ⟨w.heap.size, 1, none⟩ = some (.int .i64 p) ∧ ww.cell? ⟨w.heap.size, 2, none⟩ = some (.int .i64 n) ∧ ww.cell? ⟨w.heap.size, 3, none⟩ = some (.bool v) ∧ ww.cell? ⟨w.heap.size, 4, none⟩ = some (.bool c)) (exact qK) (first | (go_at_call 239; refine (HL.out _).mono ?_; rintro r2 w2 ⟨rfl, h2⟩; obtain ⟨hc2, hf2, hz2⟩ := qb h2; (try simp at hz2); (try have ⟨hl2_0, hk2_0⟩ := qL w.heap.size w2.heap.size); have hb2_0 := fun o => hc2 (w.heap.size + 1) o qO; have fb2_0 := fun o => hf2 (w.heap.size + 1) o qO; (try have ⟨hg2_0, hh2_0⟩ := qL (w.heap.size + 1) w2.heap.size); (try have ⟨hg2_1, hh2_1⟩ := qL w1.heap.size w2.heap.size); (try have ⟨hg2_2, hh2_2⟩ := qL w2.heap.size w2.heap.size)) | (go_at_call 180; refine (HD.out _).mono ?_; rintro r3 w3 ⟨rfl, h3⟩; obtain ⟨hc3, hf3, hz3⟩ := qb h3; (try simp at hz3); (try have ⟨hl3_0, hk3_0⟩ := qL w.heap.size w3.heap.size); have hb3_0 := fun o => hc3 (w.heap.size + 1) o qO; have fb3_0 := fun o => hf3 (w.heap.size + 1) o qO; (try have ⟨hg3_0, hh3_0⟩ := qL (w.heap.size + 1) w3.heap.size); (try have ⟨hg3_1, hh3_1⟩ := qL w1.heap.size w3.heap.size); (try have ⟨hg3_2, hh3_2⟩ := qL w2.heap.size w3.heap.size)))
  go_wp2
  all_goals
   first
    | (exact qV (.tuple #[.agg #[.int .i64 0, .int .i64 0], .bool false]) (by simp [results, results244, go_sem, hb1_1, hb2_0, hb3_0, hg1_1, hg2_0, hg3_0]) rfl)
 ·rw [if_neg hG] at HZ
  rw [HZ.out, wayX_f, wayK_f, wayZ_f]
  clear HZ
  have hbe : ((G : Int) < (N : Int) - 1) = False := by simp; omega
  cases hE : ((RA : Int) == (RF : Int)) with
  | true =>
   rw [hE] at HE
   have hM : M = RA := by rw [← HM2]; simp at hE; omega
   rw [if_pos rfl, hM]
   clear HT
   go_enter func244, ntmps244
   go_wp2_with fail
   refine (HN.out _).mono ?_
   rintro e w1 ⟨rfl, h1⟩
   obtain ⟨hc1, hf1, hz1⟩ := qb h1
   try simp at hz1
   have hb1_0 := fun o => hc1 (w.heap.size) o qO
   have fb1_0 := fun o => hf1 (w.heap.size) o qO
   have ⟨hg1_0, hh1_0⟩ := qL w.heap.size w1.heap.size
   have hb1_1 := fun o => hc1 (w.heap.size + 1) o qO
   have fb1_1 := fun o => hf1 (w.heap.size + 1) o qO
   have ⟨hg1_1, hh1_1⟩ := qL (w.heap.size + 1) w1.heap.size
   have s0 : w1.cell? ⟨w.heap.size, 0, none⟩ = some (.string s) := by rw [hb1_0]; simp
   have s1 : w1.cell? ⟨w.heap.size, 1, none⟩ = some (.int .i64 p) := by rw [hb1_0]; simp
   have s2 : w1.cell? ⟨w.heap.size, 2, none⟩ = some (.int .i64 n) := by rw [hb1_0]; simp
   have s3 : w1.cell? ⟨w.heap.size, 3, none⟩ = some (.bool v) := by rw [hb1_0]; simp
   have s4 : w1.cell? ⟨w.heap.size, 4, none⟩ = some (.bool c) := by rw [hb1_0]; simp
   go_wp2_with fail
   go_region_held3 (fun ww => ww.cell? ⟨w.heap.size, 0, none⟩ = some (.string s) ∧ ww.cell? ⟨w.heap.size, 1, none⟩ = some (.int .i64 p) ∧ ww.cell? ⟨w.heap.size, 2, none⟩ = some (.int .i64 n) ∧ ww.cell? ⟨w.heap.size, 3, none⟩ = some (.bool v) ∧ ww.cell? ⟨w.heap.size, 4, none⟩ = some (.bool c)) (exact qK) (first | (go_at_call 239; refine (HL.out _).mono ?_; rintro r2 w2 ⟨rfl, h2⟩; obtain ⟨hc2, hf2, hz2⟩ := qb h2; (try simp at hz2); (try have ⟨hl2_0, hk2_0⟩ := qL w.heap.size w2.heap.size); have hb2_0 := fun o => hc2 (w.heap.size + 1) o qO; have fb2_0 := fun o => hf2 (w.heap.size + 1) o qO; (try have ⟨hg2_0, hh2_0⟩ := qL (w.heap.size + 1) w2.heap.size); (try have ⟨hg2_1, hh2_1⟩ := qL w1.heap.size w2.heap.size); (try have ⟨hg2_2, hh2_2⟩ := qL w2.heap.size w2.heap.size)) | (go_at_call 180; refine (HD.out _).mono ?_; rintro r3 w3 ⟨rfl, h3⟩; obtain ⟨hc3, hf3, hz3⟩ := qb h3; (try simp at hz3); (try have ⟨hl3_0, hk3_0⟩ := qL w.heap.size w3.heap.size); have hb3_0 := fun o => hc3 (w.heap.size + 1) o qO; have fb3_0 := fun o => hf3 (w.heap.size + 1) o qO; (try have ⟨hg3_0, hh3_0⟩ := qL (w.heap.size + 1) w3.heap.size); (try have ⟨hg3_1, hh3_1⟩ := qL w1.heap.size w3.heap.size); (try have ⟨hg3_2, hh3_2⟩ := qL w2.heap.size w3.heap.size)))
   all_goals
    go_wp2_with fail
    refine (HE.out _).mono ?_
    rintro e w4 ⟨rfl, h4⟩
    obtain ⟨hc4, hf4, hz4⟩ := qb h4
    try simp at hz4
    have hb4_0 := fun o => hc4 (w.heap.size + 1) o qO
    have fb4_0 := fun o => hf4 (w.heap.size + 1) o qO
    have ⟨hg4_0, hh4_0⟩ := qL (w.heap.size + 1) w4.heap.size
    (try have q1 : w1.heap.size < w4.heap.size := qo)
    (try have q2 : w2.heap.size < w4.heap.size := qo)
    (try have q3 : w3.heap.size < w4.heap.size := qo)
    go_wp2
   all_goals
    first
     | (exact qV (.tuple #[.agg #[.int .i64 RA, .int .i64 0], .bool true]) (by simp [results, results244, go_sem, hb1_1, hb2_0, hb3_0, hb4_0, hg1_1, hg2_0, hg3_0, hg4_0]) rfl)
  | false =>
   rw [hE] at HE
   rw [if_neg qi]
   go_enter func244, ntmps244
   go_wp2_with fail
   refine (HN.out _).mono ?_
   rintro e w1 ⟨rfl, h1⟩
   obtain ⟨hc1, hf1, hz1⟩ := qb h1
   try simp at hz1
   have hb1_0 := fun o => hc1 (w.heap.size) o qO
   have fb1_0 := fun o => hf1 (w.heap.size) o qO
   have ⟨hg1_0, hh1_0⟩ := qL w.heap.size w1.heap.size
   have hb1_1 := fun o => hc1 (w.heap.size + 1) o qO
   have fb1_1 := fun o => hf1 (w.heap.size + 1) o qO
   have ⟨hg1_1, hh1_1⟩ := qL (w.heap.size + 1) w1.heap.size
   have s0 : w1.cell? ⟨w.heap.size, 0, none⟩ = some (.string s) := by rw [hb1_0]; simp
   have s1 : w1.cell? ⟨w.heap.size, 1, none⟩ = some (.int .i64 p) := by rw [hb1_0]; simp
   have s2 : w1.cell? ⟨w.heap.size, 2, none⟩ = some (.int .i64 n) := by rw [hb1_0]; simp
   have s3 : w1.cell? ⟨w.heap.size, 3, none⟩ = some (.bool v) := by rw [hb1_0]; simp
   have s4 : w1.cell? ⟨w.heap.size, 4, none⟩ = some (.bool c) := by rw [hb1_0]; simp
   go_wp2_with fail
   go_region_held3 (fun ww => ww.cell? ⟨w.heap.size, 0, none⟩ = some (.string s) ∧ ww.cell? ⟨w.heap.size, 1, none⟩ = some (.int .i64 p) ∧ ww.cell? ⟨w.heap.size, 2, none⟩ = some (.int .i64 n) ∧ ww.cell? ⟨w.heap.size, 3, none⟩ = some (.bool v) ∧ ww.cell? ⟨w.heap.size, 4, none⟩ = some (.bool c)) (exact qK) (first | (go_at_call 239; refine (HL.out _).mono ?_; rintro r2 w2 ⟨rfl, h2⟩; obtain ⟨hc2, hf2, hz2⟩ := qb h2; (try simp at hz2); (try have ⟨hl2_0, hk2_0⟩ := qL w.heap.size w2.heap.size); have hb2_0 := fun o => hc2 (w.heap.size + 1) o qO; have fb2_0 := fun o => hf2 (w.heap.size + 1) o qO; (try have ⟨hg2_0, hh2_0⟩ := qL (w.heap.size + 1) w2.heap.size); (try have ⟨hg2_1, hh2_1⟩ := qL w1.heap.size w2.heap.size); (try have ⟨hg2_2, hh2_2⟩ := qL w2.heap.size w2.heap.size)) | (go_at_call 180; refine (HD.out _).mono ?_; rintro r3 w3 ⟨rfl, h3⟩; obtain ⟨hc3, hf3, hz3⟩ := qb h3; (try simp at hz3); (try have ⟨hl3_0, hk3_0⟩ := qL w.heap.size w3.heap.size); have hb3_0 := fun o => hc3 (w.heap.size + 1) o qO; have fb3_0 := fun o => hf3 (w.heap.size + 1) o qO; (try have ⟨hg3_0, hh3_0⟩ := qL (w.heap.size + 1) w3.heap.size); (try have ⟨hg3_1, hh3_1⟩ := qL w1.heap.size w3.heap.size); (try have ⟨hg3_2, hh3_2⟩ := qL w2.heap.size w3.heap.size)))
   all_goals
    go_wp2_with fail
    refine (HE.out _).mono ?_
    rintro e w4 ⟨rfl, h4⟩
    obtain ⟨hc4, hf4, hz4⟩ := qb h4
    try simp at hz4
    have hb4_0 := fun o => hc4 (w.heap.size + 1) o qO
    have fb4_0 := fun o => hf4 (w.heap.size + 1) o qO
    have ⟨hg4_0, hh4_0⟩ := qL (w.heap.size + 1) w4.heap.size
    (try have q1 : w1.heap.size < w4.heap.size := qo)
    (try have q2 : w2.heap.size < w4.heap.size := qo)
    (try have q3 : w3.heap.size < w4.heap.size := qo)
    go_wp2_with fail
    refine (HT.out _).mono ?_
    rintro e w5 ⟨rfl, h5⟩
    obtain ⟨hc5, hf5, hz5⟩ := qb h5
    try simp at hz5
    have hb5_0 := fun o => hc5 (w.heap.size + 1) o qO
    have fb5_0 := fun o => hf5 (w.heap.size + 1) o qO
    have ⟨hg5_0, hh5_0⟩ := qL (w.heap.size + 1) w5.heap.size
    go_wp2
   all_goals
    first
     | (exact qV (.tuple #[.agg #[.int .i64 M, .int .i64 1], .bool true]) (by simp [results, results244, go_sem, hb1_1, hb2_0, hb3_0, hb4_0, hb5_0, hg1_1, hg2_0, hg3_0, hg4_0, hg5_0]) rfl)
theorem sInLine_eol (s : ByteArray) (p n : Nat) (v c : Bool) (w : World) (hs : s.size ≤ 1000) (hp : p ≤ s.size) (hn : n ≤ 99) :
  qC 205 #[.agg #[.string s, .int .i64 (p), .int .i64 (n), .bool v, .bool c], .int .u8 36] w (.tuple #[.agg #[.int .i64 (wayX (wayEol s p (max n 1))), .int .i64 (wayK (wayEol s p (max n 1)))], .bool (wayZ (wayEol s p (max n 1)))]) := by
 have HL : qH 239 #[.agg #[.string s, .int .i64 (p), .int .i64 (n), .bool v, .bool c]] (.agg #[.int .i64 (beg s p), .int .i64 (fin s p)]) := fun ww => sLine_any s p n v c p ww hs rfl hp
 have HE : qH 244 #[.agg #[.string s, .int .i64 (p), .int .i64 (n), .bool v, .bool c]] (.tuple #[.agg #[.int .i64 (wayX (wayEol s p (max n 1))), .int .i64 (wayK (wayEol s p (max n 1)))], .bool (wayZ (wayEol s p (max n 1)))]) := fun ww => sLineEnd_any s p n v c ww hs hp hn
 generalize wayEol s p (max n 1) = W at *
 generalize beg s p = B at *
 generalize fin s p = F at *
 go_enter func205, ntmps205
 go_wp2_with fail
 refine (HL.out _).mono ?_
 rintro e w1 ⟨rfl, h1⟩
 obtain ⟨hc1, hf1, hz1⟩ := qb h1
 try simp at hz1
 have hb1_0 := fun o => hc1 (w.heap.size) o qO
 have fb1_0 := fun o => hf1 (w.heap.size) o qO
 have ⟨hg1_0, hh1_0⟩ := qL w.heap.size w1.heap.size
 have hb1_1 := fun o => hc1 (w.heap.size + 1) o qO
 have fb1_1 := fun o => hf1 (w.heap.size + 1) o qO
 have ⟨hg1_1, hh1_1⟩ := qL (w.heap.size + 1) w1.heap.size
 go_wp2_with fail
 refine (HE.out _).mono ?_
 rintro e w2 ⟨rfl, h2⟩
 obtain ⟨hc2, hf2, hz2⟩ := qb h2
 try simp at hz2
 have hb2_0 := fun o => hc2 (w.heap.size) o qO
 have fb2_0 := fun o => hf2 (w.heap.size) o qO
 have ⟨hg2_0, hh2_0⟩ := qL w.heap.size w2.heap.size
 have hb2_1 := fun o => hc2 (w.heap.size + 1) o qO
 have fb2_1 := fun o => hf2 (w.heap.size + 1) o qO
 have ⟨hg2_1, hh2_1⟩ := qL (w.heap.size + 1) w2.heap.size
 go_wp2
 all_goals
  first
   | (exact qV (.tuple #[.agg #[.int .i64 (wayX (W)), .int .i64 (wayK (W))], .bool (wayZ (W))]) (by simp [results, results205, go_sem, hb1_1, hg1_1, hb2_1, hg2_1]) rfl)
theorem qt8 {P : Prop} (h : P := by
  go_enter func206, ntmps206
  go_wp2_with fail
  refine (HL.out _).mono ?_
  rintro e w1 ⟨rfl, h1⟩
  obtain ⟨hc1, hf1, hz1⟩ := qb h1
  try simp at hz1
  have hb1_0 := fun o => hc1 (w.heap.size) o qO
  have fb1_0 := fun o => hf1 (w.heap.size) o qO
  have ⟨hg1_0, hh1_0⟩ := qL w.heap.size w1.heap.size
  have hb1_1 := fun o => hc1 (w.heap.size + 1) o qO
  have fb1_1 := fun o => hf1 (w.heap.size + 1) o qO
  have ⟨hg1_1, hh1_1⟩ := qL (w.heap.size + 1) w1.heap.size
  have s0 : (w1).cell? ⟨w.heap.size, 0, none⟩ = some (.string s) := by rw [hb1_0]; simp
  have s1 : (w1).cell? ⟨w.heap.size, 1, none⟩ = some (.int .i64 p) := by rw [hb1_0]; simp
  have s2 : (w1).cell? ⟨w.heap.size, 2, none⟩ = some (.int .i64 n) := by rw [hb1_0]; simp
  have s3 : (w1).cell? ⟨w.heap.size, 3, none⟩ = some (.bool v) := by rw [hb1_0]; simp
  have s4 : (w1).cell? ⟨w.heap.size, 4, none⟩ = some (.bool c) := by rw [hb1_0]; simp
  have b0 : w1.cell? ⟨w.heap.size + 1, 0, none⟩ = some (.int .i64 0) := by rw [hb1_1]; simp
  have b1 : w1.cell? ⟨w.heap.size + 1, 1, none⟩ = some (.int .i64 0) := by rw [hb1_1]; simp
  have ne1 : ¬ w1.heap.size = w.heap.size := qo
  have ne2 : ¬ w.heap.size = w1.heap.size := qo
  have t0 : (w1.alloc (.cells #[.int .i64 B, .int .i64 F] 128)).cell? ⟨w1.heap.size, 0, none⟩ = some (.int .i64 B) := by simp
  have t1 : (w1.alloc (.cells #[.int .i64 B, .int .i64 F] 128)).cell? ⟨w1.heap.size, 1, none⟩ = some (.int .i64 F) := by simp
  go_wp2_with fail
  go_region_held3 (fun ww => ww.cell? ⟨w.heap.size, 0, none⟩ = some (.string s) ∧ ww.cell? ⟨w.heap.size, 1, none⟩ = some (.int .i64 p) ∧ ww.cell? ⟨w.heap.size, 2, none⟩ = some (.int .i64 n) ∧ ww.cell? ⟨w.heap.size, 3, none⟩ = some (.bool v) ∧ ww.cell? ⟨w.heap.size, 4, none⟩ = some (.bool c) ∧ ww.cell? ⟨w1.heap.size, 0, none⟩ = some (.int .i64 B) ∧ ww.cell? ⟨w1.heap.size, 1, none⟩ = some (.int .i64 F)) (exact qK) (first | (go_at_call 241; refine (HN.out _).mono ?_; rintro r2 w2 ⟨rfl, h2⟩; obtain ⟨hc2, hf2, hz2⟩ := qb h2; (try simp at hz2); (try have ⟨hl2_0, hk2_0⟩ := qL w.heap.size w2.heap.size); (try have ⟨hl2_1, hk2_1⟩ := qL w1.heap.size w2.heap.size); have hb2_0 := fun o => hc2 (w.heap.size + 1) o qO; have fb2_0 := fun o => hf2 (w.heap.size + 1) o qO; have hb2_1 := fun o => hc2 (w1.heap.size) o qO; have fb2_1 := fun o => hf2 (w1.heap.size) o qO; have hb2_2 := fun o => hc2 (w.heap.size) o qO; have fb2_2 := fun o => hf2 (w.heap.size) o qO; (try have ⟨hg2_0, hh2_0⟩ := qL (w.heap.size + 1) w2.heap.size); (try have ⟨hg2_1, hh2_1⟩ := qL w1.heap.size w2.heap.size); (try have ⟨hg2_2, hh2_2⟩ := qL w.heap.size w2.heap.size); (try have ⟨hg2_3, hh2_3⟩ := qL (w1.heap.size + 1) w2.heap.size); (try have ⟨hg2_4, hh2_4⟩ := qL w2.heap.size w2.heap.size)) | (go_at_call 180; refine (HD.out _).mono ?_; rintro r3 w3 ⟨rfl, h3⟩; obtain ⟨hc3, hf3, hz3⟩ := qb h3; (try simp at hz3); (try have ⟨hl3_0, hk3_0⟩ := qL w.heap.size w3.heap.size); (try have ⟨hl3_1, hk3_1⟩ := qL w1.heap.size w3.heap.size); have hb3_0 := fun o => hc3 (w.heap.size + 1) o qO; have fb3_0 := fun o => hf3 (w.heap.size + 1) o qO; have hb3_1 := fun o => hc3 (w1.heap.size) o qO; have fb3_1 := fun o => hf3 (w1.heap.size) o qO; have hb3_2 := fun o => hc3 (w.heap.size) o qO; have fb3_2 := fun o => hf3 (w.heap.size) o qO; (try have ⟨hg3_0, hh3_0⟩ := qL (w.heap.size + 1) w3.heap.size); (try have ⟨hg3_1, hh3_1⟩ := qL w1.heap.size w3.heap.size); (try have ⟨hg3_2, hh3_2⟩ := qL w.heap.size w3.heap.size); (try have ⟨hg3_3, hh3_3⟩ := qL (w1.heap.size + 1) w3.heap.size); (try have ⟨hg3_4, hh3_4⟩ := qL w2.heap.size w3.heap.size)))
  all_goals
   go_wp2_with fail
   refine (HN.out _).mono ?_
   rintro e w4 ⟨rfl, h4⟩
   obtain ⟨hc4, hf4, hz4⟩ := qb h4
   try simp at hz4
   have hb4_0 := fun o => hc4 (w.heap.size + 1) o qO
   have fb4_0 := fun o => hf4 (w.heap.size + 1) o qO
   have ⟨hg4_0, hh4_0⟩ := qL (w.heap.size + 1) w4.heap.size
   have hb4_1 := fun o => hc4 (w1.heap.size) o qO
   have fb4_1 := fun o => hf4 (w1.heap.size) o qO
   have ⟨hg4_1, hh4_1⟩ := qL w1.heap.size w4.heap.size
   have hb4_2 := fun o => hc4 (w.heap.size) o qO
   have fb4_2 := fun o => hf4 (w.heap.size) o qO
   have ⟨hg4_2, hh4_2⟩ := qL w.heap.size w4.heap.size
   (try have q1 : w1.heap.size + 1 < w4.heap.size := qo)
   (try have q2 : w2.heap.size < w4.heap.size := qo)
   (try have q3 : w3.heap.size < w4.heap.size := qo)
   go_wp2_with fail
   refine (HC.out _).mono ?_
   rintro e w5 ⟨rfl, h5⟩
   obtain ⟨hc5, hf5, hz5⟩ := qb h5
   try simp at hz5
   have hb5_0 := fun o => hc5 (w.heap.size + 1) o qO
   have fb5_0 := fun o => hf5 (w.heap.size + 1) o qO
   have ⟨hg5_0, hh5_0⟩ := qL (w.heap.size + 1) w5.heap.size
   have z0 : (w5).cell? ⟨w.heap.size + 1, 0, none⟩ = some (.int .i64 0) := qM
   have z1 : (w5).cell? ⟨w.heap.size + 1, 1, none⟩ = some (.int .i64 0) := qM
   go_wp2
  all_goals
   first
    | (exact qV (.tuple #[.agg #[.int .i64 X, .int .i64 2], .bool true]) (by simp [results, results206, go_sem, z0, z1]) rfl)
 ) : P := h
theorem qt10 {P : Prop} (h : P := by
  go_enter func206, ntmps206
  go_wp2_with fail
  refine (HL.out _).mono ?_
  rintro e w1 ⟨rfl, h1⟩
  obtain ⟨hc1, hf1, hz1⟩ := qb h1
  try simp at hz1
  have hb1_0 := fun o => hc1 (w.heap.size) o qO
  have fb1_0 := fun o => hf1 (w.heap.size) o qO
  have ⟨hg1_0, hh1_0⟩ := qL w.heap.size w1.heap.size
  have hb1_1 := fun o => hc1 (w.heap.size + 1) o qO
  have fb1_1 := fun o => hf1 (w.heap.size + 1) o qO
  have ⟨hg1_1, hh1_1⟩ := qL (w.heap.size + 1) w1.heap.size
  have s0 : (w1).cell? ⟨w.heap.size, 0, none⟩ = some (.string s) := by rw [hb1_0]; simp
  have s1 : (w1).cell? ⟨w.heap.size, 1, none⟩ = some (.int .i64 p) := by rw [hb1_0]; simp
  have s2 : (w1).cell? ⟨w.heap.size, 2, none⟩ = some (.int .i64 n) := by rw [hb1_0]; simp
  have s3 : (w1).cell? ⟨w.heap.size, 3, none⟩ = some (.bool v) := by rw [hb1_0]; simp
  have s4 : (w1).cell? ⟨w.heap.size, 4, none⟩ = some (.bool c) := by rw [hb1_0]; simp
  have b0 : w1.cell? ⟨w.heap.size + 1, 0, none⟩ = some (.int .i64 0) := by rw [hb1_1]; simp
  have b1 : w1.cell? ⟨w.heap.size + 1, 1, none⟩ = some (.int .i64 0) := by rw [hb1_1]; simp
  have ne1 : ¬ w1.heap.size = w.heap.size := qo
  have ne2 : ¬ w.heap.size = w1.heap.size := qo
  have t0 : (w1.alloc (.cells #[.int .i64 B, .int .i64 F] 128)).cell? ⟨w1.heap.size, 0, none⟩ = some (.int .i64 B) := by simp
  have t1 : (w1.alloc (.cells #[.int .i64 B, .int .i64 F] 128)).cell? ⟨w1.heap.size, 1, none⟩ = some (.int .i64 F) := by simp
  go_wp2_with fail
  go_region_held3 (fun ww => ww.cell? ⟨w.heap.size, 0, none⟩ = some (.string s) ∧ ww.cell? ⟨w.heap.size, 1, none⟩ = some (.int .i64 p) ∧ ww.cell? ⟨w.heap.size, 2, none⟩ = some (.int .i64 n) ∧ ww.cell? ⟨w.heap.size, 3, none⟩ = some (.bool v) ∧ ww.cell? ⟨w.heap.size, 4, none⟩ = some (.bool c) ∧ ww.cell? ⟨w1.heap.size, 0, none⟩ = some (.int .i64 B) ∧ ww.cell? ⟨w1.heap.size, 1, none⟩ = some (.int .i64 F)) (exact qK) (first | (go_at_call 241; refine (HN.out _).mono ?_; rintro r2 w2 ⟨rfl, h2⟩; obtain ⟨hc2, hf2, hz2⟩ := qb h2; (try simp at hz2); (try have ⟨hl2_0, hk2_0⟩ := qL w.heap.size w2.heap.size); (try have ⟨hl2_1, hk2_1⟩ := qL w1.heap.size w2.heap.size); have hb2_0 := fun o => hc2 (w.heap.size + 1) o qO; have fb2_0 := fun o => hf2 (w.heap.size + 1) o qO; have hb2_1 := fun o => hc2 (w1.heap.size) o qO; have fb2_1 := fun o => hf2 (w1.heap.size) o qO; have hb2_2 := fun o => hc2 (w.heap.size) o qO; have fb2_2 := fun o => hf2 (w.heap.size) o qO; (try have ⟨hg2_0, hh2_0⟩ := qL (w.heap.size + 1) w2.heap.size); (try have ⟨hg2_1, hh2_1⟩ := qL w1.heap.size w2.heap.size); (try have ⟨hg2_2, hh2_2⟩ := qL w.heap.size w2.heap.size); (try have ⟨hg2_3, hh2_3⟩ := qL (w1.heap.size + 1) w2.heap.size); (try have ⟨hg2_4, hh2_4⟩ := qL w2.heap.size w2.heap.size)) | (go_at_call 180; refine (HD.out _).mono ?_; rintro r3 w3 ⟨rfl, h3⟩; obtain ⟨hc3, hf3, hz3⟩ := qb h3; (try simp at hz3); (try have ⟨hl3_0, hk3_0⟩ := qL w.heap.size w3.heap.size); (try have ⟨hl3_1, hk3_1⟩ := qL w1.heap.size w3.heap.size); have hb3_0 := fun o => hc3 (w.heap.size + 1) o qO; have fb3_0 := fun o => hf3 (w.heap.size + 1) o qO; have hb3_1 := fun o => hc3 (w1.heap.size) o qO; have fb3_1 := fun o => hf3 (w1.heap.size) o qO; have hb3_2 := fun o => hc3 (w.heap.size) o qO; have fb3_2 := fun o => hf3 (w.heap.size) o qO; (try have ⟨hg3_0, hh3_0⟩ := qL (w.heap.size + 1) w3.heap.size); (try have ⟨hg3_1, hh3_1⟩ := qL w1.heap.size w3.heap.size); (try have ⟨hg3_2, hh3_2⟩ := qL w.heap.size w3.heap.size); (try have ⟨hg3_3, hh3_3⟩ := qL (w1.heap.size + 1) w3.heap.size); (try have ⟨hg3_4, hh3_4⟩ := qL w2.heap.size w3.heap.size)))
  all_goals
   go_wp2_with fail
   refine (HN.out _).mono ?_
   rintro e w4 ⟨rfl, h4⟩
   obtain ⟨hc4, hf4, hz4⟩ := qb h4
   try simp at hz4
   have hb4_0 := fun o => hc4 (w.heap.size + 1) o qO
   have fb4_0 := fun o => hf4 (w.heap.size + 1) o qO
   have ⟨hg4_0, hh4_0⟩ := qL (w.heap.size + 1) w4.heap.size
   have hb4_1 := fun o => hc4 (w1.heap.size) o qO
   have fb4_1 := fun o => hf4 (w1.heap.size) o qO
   have ⟨hg4_1, hh4_1⟩ := qL w1.heap.size w4.heap.size
   have hb4_2 := fun o => hc4 (w.heap.size) o qO
   have fb4_2 := fun o => hf4 (w.heap.size) o qO
   have ⟨hg4_2, hh4_2⟩ := qL w.heap.size w4.heap.size
   (try have q1 : w1.heap.size + 1 < w4.heap.size := qo)
   (try have q2 : w2.heap.size < w4.heap.size := qo)
   (try have q3 : w3.heap.size < w4.heap.size := qo)
   have z0 : (w4).cell? ⟨w.heap.size + 1, 0, none⟩ = some (.int .i64 0) := qM
   have z1 : (w4).cell? ⟨w.heap.size + 1, 1, none⟩ = some (.int .i64 0) := qM
   go_wp2
  all_goals
   first
    | (exact qV (.tuple #[.agg #[.int .i64 0, .int .i64 0], .bool false]) (by simp [results, results206, go_sem, z0, z1]) rfl)
 ) : P := h
theorem sToLine_gen (s : ByteArray) (p n : Nat) (v c : Bool) (key d : Int) (w : World) (W : Int × Int × Bool) (R G N : Nat) (hs : s.size ≤ 1000) (hp : p ≤ s.size) (hn : n ≤ 99) (hN : N = max n 1) (hR : R < lns s)
  (hk : (key = 106 ∧ d = 1) ∨ (key = 107 ∧ d = -1))
  (HD : qH 180 #[.string s, .agg #[.int .i64 (beg s p), .int .i64 (fin s p)], .int .i64 N, .int .i64 d] (.tuple #[.agg #[.int .i64 (att s R), .int .i64 (fin s (att s R))], .int .i64 G]))
  (HZ : Hid (W = if (G : Int) < (N : Int) then (0, 0, true) else (min (((att s R : Nat) : Int) + ((p : Int) - beg s p)) (max ((att s R : Nat) : Int) (((fin s (att s R) : Nat) : Int) - 1)), 2, false))) :
  qC 206 #[.agg #[.string s, .int .i64 (p), .int .i64 (n), .bool v, .bool c], .int .u8 key] w (.tuple #[.agg #[.int .i64 (wayX (W)), .int .i64 (wayK (W))], .bool (wayZ (W))]) := by
 have HL : qH 239 #[.agg #[.string s, .int .i64 (p), .int .i64 (n), .bool v, .bool c]] (.agg #[.int .i64 (beg s p), .int .i64 (fin s p)]) := fun ww => sLine_any s p n v c p ww hs rfl hp
 have HN : qH 241 #[.agg #[.string s, .int .i64 (p), .int .i64 (n), .bool v, .bool c]] (.int .i64 N) := by
  intro ww
  have := sNumber_any s p n v c ww
  rw [show max (n : Int) 1 = (N : Int) by omega] at this
  exact this
 have hF := fin_le (att_in hR).1
 have hA := (att_in hR).1
 have hB := beg_le s p
 have HC : qH 245 #[.agg #[.int .i64 (att s R), .int .i64 (fin s (att s R))], .int .i64 ((p : Int) - beg s p)] (.int .i64 (min (((att s R : Nat) : Int) + ((p : Int) - beg s p)) (max ((att s R : Nat) : Int) (((fin s (att s R) : Nat) : Int) - 1)))) := fun ww => tColumn_any _ _ _ ww qo qo
 generalize min (((att s R : Nat) : Int) + ((p : Int) - beg s p)) (max ((att s R : Nat) : Int) (((fin s (att s R) : Nat) : Int) - 1)) = X at *
 generalize fin s (att s R) = RF at *
 generalize att s R = RA at *
 generalize fin s p = F at *
 generalize beg s p = B at *
 clear hR
 have hw : IntKind.i64.wrap ((p : Int) - B) = (p : Int) - B := by rw [IntKind.wrap_i64]; omega
 have hN2 : N ≤ 99 := by omega
 clear hN
 by_cases hG : (G : Int) < (N : Int)
 ·rw [if_pos hG] at HZ
  rw [HZ.out, wayX_t, wayK_t, wayZ_t]
  clear HZ
  rcases hk with ⟨rfl, rfl⟩ | ⟨rfl, rfl⟩
  ·exact qt10
  ·exact qt10
 ·rw [if_neg hG] at HZ
  rw [HZ.out, wayX_f, wayK_f, wayZ_f]
  clear HZ
  have hbe : ((G : Int) < (N : Int)) = False := by simp; omega
  rcases hk with ⟨rfl, rfl⟩ | ⟨rfl, rfl⟩
  ·exact qt8
  ·exact qt8
