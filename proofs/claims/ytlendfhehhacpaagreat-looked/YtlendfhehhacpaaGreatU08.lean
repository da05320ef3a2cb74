/- A part. -/
import Derived.Test.YtlendfhehhacpaaGreatU04
import Derived.Test.YtlendfhehhacpaaGreatU05
import Derived.Test.YtlendfhehhacpaaGreatU03
set_option linter.unusedVariables false
set_option linter.unusedSimpArgs false
set_option maxRecDepth 100000
set_option maxHeartbeats 8000000
namespace Go.Proofs.YtlendfhehhacpaaGreat
open Go.RowKit Nib Tryz
theorem tClass_any (c : Int) (g : Bool) (w : World) :
  Calls Tryz.prog 225 #[.int .u8 c, .bool g] w fun e w' => e = .returned (.int .i64 (cls c g)) ∧ w' = w := by
 generalize hx : cls c g = x
 have HX : Hid (x = if blk c = true then 0 else if c = 10 then 1 else if g = true ∨ 128 ≤ c ∨ c = 95 ∨ (48 ≤ c ∧ c ≤ 57) ∨ (65 ≤ c ∧ c ≤ 90) ∨ (97 ≤ c ∧ c ≤ 122) then 2 else 3) := hx.symm
 clear hx
 by_cases h32 : c = 32
 ·have HY : Hid (x = 0) := by rw [Hid, HX.out, if_pos (by simp [blk, h32])]
  clear HX
  go_enter func225, ntmps225
  go_wp2
  go_ret
  exact ⟨ret_int (by rw [HY.out]), rfl⟩
 by_cases h9 : c = 9
 ·have HY : Hid (x = 0) := by rw [Hid, HX.out, if_pos (by simp [blk, h9])]
  clear HX
  go_enter func225, ntmps225
  go_wp2
  go_ret
  exact ⟨ret_int (by rw [HY.out]), rfl⟩
 by_cases h10 : c = 10
 ·have HY : Hid (x = 1) := by rw [Hid, HX.out, if_neg (by simp [blk, h32, h9]), if_pos h10]
  clear HX
  subst h10
  go_enter func225, ntmps225
  go_wp2
  go_ret
  exact ⟨ret_int (by rw [HY.out]), rfl⟩
 have HY : Hid (x = if g = true ∨ 128 ≤ c ∨ c = 95 ∨ (48 ≤ c ∧ c ≤ 57) ∨ (65 ≤ c ∧ c ≤ 90) ∨ (97 ≤ c ∧ c ≤ 122) then 2 else 3) := by rw [Hid, HX.out, if_neg (by simp [blk, h32, h9]), if_neg h10]
 clear HX
 have b32 : (c == 32) = false := by simp [h32]
 have b9 : (c == 9) = false := by simp [h9]
 have b10 : (c == 10) = false := by simp [h10]
 cases g with
 | true =>
  have HZ : Hid (x = 2) := by rw [Hid, HY.out]; simp
  clear HY
  go_enter func225, ntmps225
  go_wp2
  go_ret
  exact ⟨ret_int (by rw [HZ.out]), rfl⟩
 | false =>
  by_cases hq : (128 ≤ c ∨ c = 95 ∨ (48 ≤ c ∧ c ≤ 57) ∨ (65 ≤ c ∧ c ≤ 90) ∨ (97 ≤ c ∧ c ≤ 122))
  ·have HZ : Hid (x = 2) := by rw [Hid, HY.out, if_pos (Or.inr hq)]
   have HW : Hid (decide (128 ≤ c ∨ c = 95 ∨ (48 ≤ c ∧ c ≤ 57) ∨ (65 ≤ c ∧ c ≤ 90) ∨ (97 ≤ c ∧ c ≤ 122)) = true) := by rw [Hid]; exact decide_eq_true hq
   clear HY hq
   go_enter func225, ntmps225
   go_wp2_with fail
   refine (tIsWord_any c _).mono ?_
   rintro e w' ⟨rfl, rfl⟩
   rw [HW.out]
   go_wp2
   go_ret
   exact ⟨ret_int (by rw [HZ.out]), rfl⟩
  ·have HZ : Hid (x = 3) := by rw [Hid, HY.out, if_neg (by simp only [Bool.false_eq_true, false_or]; exact hq)]
   have HW : Hid (decide (128 ≤ c ∨ c = 95 ∨ (48 ≤ c ∧ c ≤ 57) ∨ (65 ≤ c ∧ c ≤ 90) ∨ (97 ≤ c ∧ c ≤ 122)) = false) := by rw [Hid]; exact decide_eq_false hq
   clear HY hq
   go_enter func225, ntmps225
   go_wp2_with fail
   refine (tIsWord_any c _).mono ?_
   rintro e w' ⟨rfl, rfl⟩
   rw [HW.out]
   go_wp2
   go_ret
   exact ⟨ret_int (by rw [HZ.out]), rfl⟩
theorem qt34 {P : Prop} (h : P := by
  generalize att s m = D at *
  go_enter func223, ntmps223
  go_wp2_with fail
  refine (HL.out _).mono ?_
  rintro e w1 ⟨rfl, h1⟩
  obtain ⟨hc1, hf1, hz1⟩ := qb h1
  try simp at hz1
  go_wp2
  refine bodyPost_ret (v := .tuple #[.agg #[.int .i64 (A), .int .i64 (B)], .bool true]) (by simp [results, results223, go_sem, hc1]) rfl ⟨rfl, ?_⟩
  exact qB
 ) : P := h
theorem tBeside_down (s : ByteArray) (a b d : Int) (m : Nat) (w : World) (hs : s.size ≤ 1000) (ea : a = att s m) (eb : b = fin s (att s m)) (ed : d = 1) (h : m + 1 < lns s) :
  qC 223 #[.string s, .agg #[.int .i64 (a), .int .i64 (b)], .int .i64 d] w (.tuple #[.agg #[.int .i64 (att s (m + 1)), .int .i64 (fin s (att s (m + 1)))], .bool true]) := by
 subst ea eb ed
 have h1 := fin_lt_of h
 have h2 := line_down h
 have HL : qH 195 #[.string s, .int .i64 (((fin s (att s m) : Nat) : Int) + 1)] (.agg #[.int .i64 (att s (m + 1)), .int .i64 (fin s (att s (m + 1)))]) := by
  intro ww
  have := tLine_any s (((fin s (att s m) : Nat) : Int) + 1) (fin s (att s m) + 1) ww hs qo qo
  rw [h2.1, h2.2] at this
  exact this
 clear h2
 generalize att s (m + 1) = A at *
 generalize fin s A = B at *
 generalize fin s (att s m) = F at *
 exact qt34
theorem tBeside_up (s : ByteArray) (a b d : Int) (m : Nat) (w : World) (hs : s.size ≤ 1000) (ea : a = att s m) (hm : m < lns s) (ed : d = -1) (h : 0 < m) :
  qC 223 #[.string s, .agg #[.int .i64 (a), .int .i64 (b)], .int .i64 d] w (.tuple #[.agg #[.int .i64 (att s (m - 1)), .int .i64 (fin s (att s (m - 1)))], .bool true]) := by
 subst ea ed
 have h1 := att_pos (s := s) h
 have h3 := (att_in hm).1
 have h2 := line_up hm h
 have HL : qH 195 #[.string s, .int .i64 (((att s m : Nat) : Int) - 1)] (.agg #[.int .i64 (att s (m - 1)), .int .i64 (fin s (att s (m - 1)))]) := by
  intro ww
  have := tLine_any s (((att s m : Nat) : Int) - 1) (att s m - 1) ww hs qo qo
  rw [h2.1, h2.2] at this
  exact this
 clear h2
 generalize att s (m - 1) = A at *
 generalize fin s A = B at *
 exact qt34
theorem tBeside_none (s : ByteArray) (a b d : Int) (w : World) (hs : s.size ≤ 1000) (ed : d = 1 ∨ d = -1) (h1 : d = 1 → b = s.size) (h2 : d = -1 → a = 0) :
  qC 223 #[.string s, .agg #[.int .i64 (a), .int .i64 (b)], .int .i64 d] w (.tuple #[.agg #[.int .i64 (0), .int .i64 (0)], .bool false]) := by
 rcases ed with rfl | rfl
 ·have h3 := h1 rfl
  subst h3
  clear h1 h2
  go_enter func223, ntmps223
  go_wp2
  refine bodyPost_ret (v := .tuple #[.agg #[.int .i64 (0), .int .i64 (0)], .bool false]) (by simp [results, results223, go_sem]) rfl ⟨rfl, ?_⟩
  exact qB
 ·have h3 := h2 rfl
  subst h3
  clear h1 h2
  go_enter func223, ntmps223
  go_wp2
  refine bodyPost_ret (v := .tuple #[.agg #[.int .i64 (0), .int .i64 (0)], .bool false]) (by simp [results, results223, go_sem]) rfl ⟨rfl, ?_⟩
  exact qB
theorem tFurther_down (s : ByteArray) (a b c d : Int) (m n : Nat) (w : World) (hs : s.size ≤ 1000) (hm : m < lns s) (ea : a = att s m) (eb : b = fin s (att s m)) (ec : c = n) (ed : d = 1) (hn : n ≤ 99) :
  qC 180 #[.string s, .agg #[.int .i64 (a), .int .i64 (b)], .int .i64 c, .int .i64 d] w (.tuple #[.agg #[.int .i64 (att s (min (m + n) (lns s - 1))), .int .i64 (fin s (att s (min (m + n) (lns s - 1))))], .int .i64 ((min n (lns s - 1 - m) : Nat) : Int)]) := by
 subst ea eb ec ed
 have HR : Hid (∀ j, j ≤ n → (j < n → ¬ m + j + 1 < lns s) → m + j < lns s → min (m + n) (lns s - 1) = m + j ∧ min n (lns s - 1 - m) = j) := by
  rw [Hid]; intro j h1 h2 h3
  by_cases h : j < n
  ·have := h2 h; omega
  ·omega
 generalize min (m + n) (lns s - 1) = R at *
 generalize min n (lns s - 1 - m) = G at *
 go_enter func180, ntmps180
 go_wp2
 go_loopw [10, 11, 12, 14] (fun _ _ _ i wr => ∃ j : Nat, j ≤ n ∧ m + j < lns s ∧ i = .int .i64 j ∧ Two wr w.heap.size (att s (m + j)) (fin s (att s (m + j))) ∧ Two wr (w.heap.size + 1) 0 0 ∧ Below w.heap.size w wr) (fun _ _ _ i _ => n - (intOf i).toNat)
 case atStart =>
  refine ⟨0, by omega, hm, rfl, ?_, ?_, ?_⟩
  ·exact Two.alloc (Two.new _ _ _ _) _
  ·have := Two.new (w.alloc (Obj.cells #[.int .i64 (att s m), .int .i64 (fin s (att s m))] 128)) 0 0 128
   simpa using this
  ·exact qB
 case round =>
  obtain ⟨j, hj, hmj, rfl, h1, h2, hB⟩ := hrel
  have ⟨c0, c1, cz, cl⟩ := h1
  have ⟨d0, d1, dz, dl⟩ := h2
  have hz := hB.size
  by_cases hlt : j < n
  ·by_cases hne : m + j + 1 < lns s
   ·go_wp2_with fail
    refine (tBeside_down s _ _ _ (m + j) _ hs rfl rfl rfl hne).mono ?_
    rintro e w3 ⟨rfl, h3⟩
    obtain ⟨hc3, hf3, hz3⟩ := qb h3
    try simp at hz3
    have p0 := (h1.below h3).c0
    have p1 := (h1.below h3).c1
    have pz := (h1.below h3).fz
    have pl := (h1.below h3).lt
    have q0 := (h2.below h3).c0
    have q1 := (h2.below h3).c1
    have qz := (h2.below h3).fz
    have ql := (h2.below h3).lt
    go_wp2
    go_round
    case rel =>
     refine ⟨j + 1, by omega, by omega, by go_num, ?_, ?_, ?_⟩
     ·rw [show m + (j + 1) = m + j + 1 by omega]
      refine Two.alloc (Two.set1 (Two.set0 (x := att s (m + j)) (y := fin s (att s (m + j))) ?_ _) _) _
      repeat (with_reducible first | exact h1 | refine t_o ?_ _ | refine Two.alloc ?_ _ | refine Two.drewN ?_ _ | refine Two.drew ?_ | refine Two.below ?_ h3)
     ·repeat (with_reducible first | exact h2 | refine t_o ?_ _ | refine Two.alloc ?_ _ | refine Two.drewN ?_ _ | refine Two.drew ?_ | refine Two.below ?_ h3)
     ·exact qB
    case measure => simp [intOf] <;> omega
   ·go_wp2_with fail
    refine (tBeside_none s _ _ _ _ hs (Or.inl rfl) (fun _ => by have := fin_last (s := s) (m := m + j) qo; omega) (fun h => by omega)).mono ?_
    rintro e w3 ⟨rfl, h3⟩
    obtain ⟨hc3, hf3, hz3⟩ := qb h3
    try simp at hz3
    have HK := HR.out j hj (fun _ => hne) hmj
    have p0 := (h1.below h3).c0
    have p1 := (h1.below h3).c1
    have pz := (h1.below h3).fz
    have pl := (h1.below h3).lt
    have q0 := (h2.below h3).c0
    have q1 := (h2.below h3).c1
    have qz := (h2.below h3).fz
    have ql := (h2.below h3).lt
    go_wp2
    refine bodyPost_ret (v := .tuple #[.agg #[.int .i64 (att s (m + j)), .int .i64 (fin s (att s (m + j)))], .int .i64 j]) (by simp [results, results180, go_sem, p0, p1, q0, q1, pz, qz, pl, ql]) rfl ⟨by rw [HK.1, HK.2], ?_⟩
    exact qB
  ·have HK := HR.out j hj (fun h => absurd h hlt) hmj
   have ej : j = n := by omega
   subst ej
   go_wp2
   refine bodyPost_ret (v := .tuple #[.agg #[.int .i64 (att s (m + j)), .int .i64 (fin s (att s (m + j)))], .int .i64 j]) (by simp [results, results180, go_sem, c0, c1, d0, d1, cz, dz]) rfl ⟨by rw [HK.1, HK.2], ?_⟩
   exact qB
theorem tFurther_up (s : ByteArray) (a b c d : Int) (m n : Nat) (w : World) (hs : s.size ≤ 1000) (hm : m < lns s) (ea : a = att s m) (eb : b = fin s (att s m)) (ec : c = n) (ed : d = -1) (hn : n ≤ 99) :
  qC 180 #[.string s, .agg #[.int .i64 (a), .int .i64 (b)], .int .i64 c, .int .i64 d] w (.tuple #[.agg #[.int .i64 (att s (m - n)), .int .i64 (fin s (att s (m - n)))], .int .i64 ((min n m : Nat) : Int)]) := by
 subst ea eb ec ed
 have HR : Hid (∀ j, j ≤ n → (j < n → ¬ 0 < m - j) → j ≤ m → m - n = m - j ∧ min n m = j) := by
  rw [Hid]; intro j h1 h2 h3
  by_cases h : j < n
  ·have := h2 h; omega
  ·omega
 generalize m - n = R at *
 generalize min n m = G at *
 go_enter func180, ntmps180
 go_wp2
 go_loopw [10, 11, 12, 14] (fun _ _ _ i wr => ∃ j : Nat, j ≤ n ∧ j ≤ m ∧ i = .int .i64 j ∧ Two wr w.heap.size (att s (m - j)) (fin s (att s (m - j))) ∧ Two wr (w.heap.size + 1) 0 0 ∧ Below w.heap.size w wr) (fun _ _ _ i _ => n - (intOf i).toNat)
 case atStart =>
  refine ⟨0, by omega, by omega, rfl, ?_, ?_, ?_⟩
  ·exact Two.alloc (Two.new _ _ _ _) _
  ·have := Two.new (w.alloc (Obj.cells #[.int .i64 (att s m), .int .i64 (fin s (att s m))] 128)) 0 0 128
   simpa using this
  ·exact qB
 case round =>
  obtain ⟨j, hj, hmj, rfl, h1, h2, hB⟩ := hrel
  have ⟨c0, c1, cz, cl⟩ := h1
  have ⟨d0, d1, dz, dl⟩ := h2
  have hz := hB.size
  by_cases hlt : j < n
  ·by_cases hne : 0 < m - j
   ·go_wp2_with fail
    refine (tBeside_up s _ _ _ (m - j) _ hs rfl qo rfl hne).mono ?_
    rintro e w3 ⟨rfl, h3⟩
    obtain ⟨hc3, hf3, hz3⟩ := qb h3
    try simp at hz3
    have p0 := (h1.below h3).c0
    have p1 := (h1.below h3).c1
    have pz := (h1.below h3).fz
    have pl := (h1.below h3).lt
    have q0 := (h2.below h3).c0
    have q1 := (h2.below h3).c1
    have qz := (h2.below h3).fz
    have ql := (h2.below h3).lt
    go_wp2
    go_round
    case rel =>
     refine ⟨j + 1, by omega, by omega, by go_num, ?_, ?_, ?_⟩
     ·rw [show m - (j + 1) = m - j - 1 by omega]
      refine Two.alloc (Two.set1 (Two.set0 (x := att s (m - j)) (y := fin s (att s (m - j))) ?_ _) _) _
      repeat (with_reducible first | exact h1 | refine t_o ?_ _ | refine Two.alloc ?_ _ | refine Two.drewN ?_ _ | refine Two.drew ?_ | refine Two.below ?_ h3)
     ·repeat (with_reducible first | exact h2 | refine t_o ?_ _ | refine Two.alloc ?_ _ | refine Two.drewN ?_ _ | refine Two.drew ?_ | refine Two.below ?_ h3)
     ·exact qB
    case measure => simp [intOf] <;> omega
   ·go_wp2_with fail
    refine (tBeside_none s _ _ _ _ hs (Or.inr rfl) (fun h => by omega) (fun _ => by rw [show m - j = 0 from qo]; rfl)).mono ?_
    rintro e w3 ⟨rfl, h3⟩
    obtain ⟨hc3, hf3, hz3⟩ := qb h3
    try simp at hz3
    have HK := HR.out j hj (fun _ => hne) hmj
    have p0 := (h1.below h3).c0
    have p1 := (h1.below h3).c1
    have pz := (h1.below h3).fz
    have pl := (h1.below h3).lt
    have q0 := (h2.below h3).c0
    have q1 := (h2.below h3).c1
    have qz := (h2.below h3).fz
    have ql := (h2.below h3).lt
    go_wp2
    refine bodyPost_ret (v := .tuple #[.agg #[.int .i64 (att s (m - j)), .int .i64 (fin s (att s (m - j)))], .int .i64 j]) (by simp [results, results180, go_sem, p0, p1, q0, q1, pz, qz, pl, ql]) rfl ⟨by rw [HK.1, HK.2], ?_⟩
    exact qB
  ·have HK := HR.out j hj (fun h => absurd h hlt) hmj
   have ej : j = n := by omega
   subst ej
   go_wp2
   refine bodyPost_ret (v := .tuple #[.agg #[.int .i64 (att s (m - j)), .int .i64 (fin s (att s (m - j)))], .int .i64 j]) (by simp [results, results180, go_sem, c0, c1, d0, d1, cz, dz]) rfl ⟨by rw [HK.1, HK.2], ?_⟩
   exact qB
