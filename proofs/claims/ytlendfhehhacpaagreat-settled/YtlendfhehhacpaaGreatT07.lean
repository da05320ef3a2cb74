/- A part. -/
import Derived.Test.YtlendfhehhacpaaGreatT05
import Derived.Test.YtlendfhehhacpaaGreatT04
set_option linter.unusedVariables false
set_option linter.unusedSimpArgs false
set_option maxRecDepth 100000
set_option maxHeartbeats 8000000
namespace Go.Proofs.YtlendfhehhacpaaGreat
open Go.RowKit Nib Tryz
theorem tFurther_down (s : ByteArray) (a b c d : Int) (m n : Nat) (w : World) (hs : s.size ≤ 1000) (hm : m < lns s) (ea : a = att s m) (eb : b = fin s (att s m)) (ec : c = n) (ed : d = 1) (hn : n ≤ 99) :
  qC 180 #[.string s, .agg #[.int .i64 (a), .int .i64 (b)], .int .i64 c, .int .i64 d] w (.tuple #[.agg #[.int .i64 (att s (min (m + n) (lns s - 1))), .int .i64 (fin s (att s (min (m + n) (lns s - 1))))], .int .i64 ((min n (lns s - 1 - m) : Nat) : Int)]) := by
 subst ea eb ec ed
 have HR : Hid (∀ j, j ≤ n → (j < n → ¬ m + j + 1 < lns s) → m + j < lns s → min (m + n) (lns s - 1) = m + j ∧ min n (lns s - 1 - m) = j) := by
  rw [Hid]; intro j h1 h2 h3
  by_cases h : j < n
  ·have := h2 h; omega
  ·omega
 generalize min (m + n) (lns s - 1) = R at *
 generalize min n (lns s - 1 - m) = G at *
 go_enter func180, ntmps180
 go_wp2
 go_loopw [10, 11, 12, 14] (fun _ _ _ i wr => ∃ j : Nat, j ≤ n ∧ m + j < lns s ∧ i = .int .i64 j ∧ Two wr w.heap.size (att s (m + j)) (fin s (att s (m + j))) ∧ Two wr (w.heap.size + 1) 0 0 ∧ Below w.heap.size w wr) (fun _ _ _ i _ => n - (intOf i).toNat)
 case atStart =>
  refine ⟨0, by omega, hm, rfl, ?_, ?_, ?_⟩
  ·exact Two.alloc (Two.new _ _ _ _) _
  ·have := Two.new (w.alloc (Obj.cells #[.int .i64 (att s m), .int .i64 (fin s (att s m))] 128)) 0 0 128
   simpa using this
  ·exact qB
 case round =>
  obtain ⟨j, hj, hmj, rfl, h1, h2, hB⟩ := hrel
  have ⟨c0, c1, cz, cl⟩ := h1
  have ⟨d0, d1, dz, dl⟩ := h2
  have hz := hB.size
  by_cases hlt : j < n
  ·by_cases hne : m + j + 1 < lns s
   ·go_wp2_with fail
    refine (tBeside_down s _ _ _ (m + j) _ hs rfl rfl rfl hne).mono ?_
    rintro e w3 ⟨rfl, h3⟩
    obtain ⟨hc3, hf3, hz3⟩ := qb h3
    try simp at hz3
    have p0 := (h1.below h3).c0
    have p1 := (h1.below h3).c1
    have pz := (h1.below h3).fz
    have pl := (h1.below h3).lt
    have q0 := (h2.below h3).c0
    have q1 := (h2.below h3).c1
    have qz := (h2.below h3).fz
    have ql := (h2.below h3).lt
    go_wp2
    go_round
    case rel =>
     refine ⟨j + 1, by omega, by omega, by go_num, ?_, ?_, ?_⟩
     ·rw [show m + (j + 1) = m + j + 1 by omega]
      refine Two.alloc (Two.set1 (Two.set0 (x := att s (m + j)) (y := fin s (att s (m + j))) ?_ _) _) _
      repeat (with_reducible first | exact h1 | refine t_o ?_ _ | refine Two.alloc ?_ _ | refine Two.drewN ?_ _ | refine Two.drew ?_ | refine Two.below ?_ h3)
     ·repeat (with_reducible first | exact h2 | refine t_o ?_ _ | refine Two.alloc ?_ _ | refine Two.drewN ?_ _ | refine Two.drew ?_ | refine Two.below ?_ h3)
     ·exact qB
    case measure => simp [intOf] <;> omega
   ·go_wp2_with fail
    refine (tBeside_none s _ _ _ _ hs (Or.inl rfl) (fun _ => by have := fin_last (s := s) (m := m + j) qo; omega) (fun h => by omega)).mono ?_
    rintro e w3 ⟨rfl, h3⟩
    obtain ⟨hc3, hf3, hz3⟩ := qb h3
    try simp at hz3
    have HK := HR.out j hj (fun _ => hne) hmj
    have p0 := (h1.below h3).c0
    have p1 := (h1.below h3).c1
    have pz := (h1.below h3).fz
    have pl := (h1.below h3).lt
    have q0 := (h2.below h3).c0
    have q1 := (h2.below h3).c1
    have qz := (h2.below h3).fz
    have ql := (h2.below h3).lt
    go_wp2
    refine bodyPost_ret (v := .tuple #[.agg #[.int .i64 (att s (m + j)), .int .i64 (fin s (att s (m + j)))], .int .i64 j]) (by simp [results, results180, go_sem, p0, p1, q0, q1, pz, qz, pl, ql]) rfl ⟨by rw [HK.1, HK.2], ?_⟩
    exact qB
  ·have HK := HR.out j hj (fun h => absurd h hlt) hmj
   have ej : j = n := by omega
   subst ej
   go_wp2
   refine bodyPost_ret (v := .tuple #[.agg #[.int .i64 (att s (m + j)), .int .i64 (fin s (att s (m + j)))], .int .i64 j]) (by simp [results, results180, go_sem, c0, c1, d0, d1, cz, dz]) rfl ⟨by rw [HK.1, HK.2], ?_⟩
   exact qB
theorem tFurther_up (s : ByteArray) (a b c d : Int) (m n : Nat) (w : World) (hs : s.size ≤ 1000) (hm : m < lns s) (ea : a = att s m) (eb : b = fin s (att s m)) (ec : c = n) (ed : d = -1) (hn : n ≤ 99) :
  qC 180 #[.string s, .agg #[.int .i64 (a), .int .i64 (b)], .int .i64 c, .int .i64 d] w (.tuple #[.agg #[.int .i64 (att s (m - n)), .int .i64 (fin s (att s (m - n)))], .int .i64 ((min n m : Nat) : Int)]) := by
 subst ea eb ec ed
 have HR : Hid (∀ j, j ≤ n → (j < n → ¬ 0 < m - j) → j ≤ m → m - n = m - j ∧ min n m = j) := by
  rw [Hid]; intro j h1 h2 h3
  by_cases h : j < n
  ·have := h2 h; omega
  ·omega
 generalize m - n = R at *
 generalize min n m = G at *
 go_enter func180, ntmps180
 go_wp2
 go_loopw [10, 11, 12, 14] (fun _ _ _ i wr => ∃ j : Nat, j ≤ n ∧ j ≤ m ∧ i = .int .i64 j ∧ Two wr w.heap.size (att s (m - j)) (fin s (att s (m - j))) ∧ Two wr (w.heap.size + 1) 0 0 ∧ Below w.heap.size w wr) (fun _ _ _ i _ => n - (intOf i).toNat)
 case atStart =>
  refine ⟨0, by omega, by omega, rfl, ?_, ?_, ?_⟩
  ·exact Two.alloc (Two.new _ _ _ _) _
  ·have := Two.new (w.alloc (Obj.cells #[.int .i64 (att s m), .int .i64 (fin s (att s m))] 128)) 0 0 128
   simpa using this
  ·exact qB
 case round =>
  obtain ⟨j, hj, hmj, rfl, h1, h2, hB⟩ := hrel
  have ⟨c0, c1, cz, cl⟩ := h1
  have ⟨d0, d1, dz, dl⟩ := h2
  have hz := hB.size
  by_cases hlt : j < n
  ·by_cases hne : 0 < m - j
   ·go_wp2_with fail
    refine (tBeside_up s _ _ _ (m - j) _ hs rfl qo rfl hne).mono ?_
    rintro e w3 ⟨rfl, h3⟩
    obtain ⟨hc3, hf3, hz3⟩ := qb h3
    try simp at hz3
    have p0 := (h1.below h3).c0
    have p1 := (h1.below h3).c1
    have pz := (h1.below h3).fz
    have pl := (h1.below h3).lt
    have q0 := (h2.below h3).c0
    have q1 := (h2.below h3).c1
    have qz := (h2.below h3).fz
    have ql := (h2.below h3).lt
    go_wp2
    go_round
    case rel =>
     refine ⟨j + 1, by omega, by omega, by go_num, ?_, ?_, ?_⟩
     ·rw [show m - (j + 1) = m - j - 1 by omega]
      refine Two.alloc (Two.set1 (Two.set0 (x := att s (m - j)) (y := fin s (att s (m - j))) ?_ _) _) _
      repeat (with_reducible first | exact h1 | refine t_o ?_ _ | refine Two.alloc ?_ _ | refine Two.drewN ?_ _ | refine Two.drew ?_ | refine Two.below ?_ h3)
     ·repeat (with_reducible first | exact h2 | refine t_o ?_ _ | refine Two.alloc ?_ _ | refine Two.drewN ?_ _ | refine Two.drew ?_ | refine Two.below ?_ h3)
     ·exact qB
    case measure => simp [intOf] <;> omega
   ·go_wp2_with fail
    refine (tBeside_none s _ _ _ _ hs (Or.inr rfl) (fun h => by omega) (fun _ => by rw [show m - j = 0 from qo]; rfl)).mono ?_
    rintro e w3 ⟨rfl, h3⟩
    obtain ⟨hc3, hf3, hz3⟩ := qb h3
    try simp at hz3
    have HK := HR.out j hj (fun _ => hne) hmj
    have p0 := (h1.below h3).c0
    have p1 := (h1.below h3).c1
    have pz := (h1.below h3).fz
    have pl := (h1.below h3).lt
    have q0 := (h2.below h3).c0
    have q1 := (h2.below h3).c1
    have qz := (h2.below h3).fz
    have ql := (h2.below h3).lt
    go_wp2
    refine bodyPost_ret (v := .tuple #[.agg #[.int .i64 (att s (m - j)), .int .i64 (fin s (att s (m - j)))], .int .i64 j]) (by simp [results, results180, go_sem, p0, p1, q0, q1, pz, qz, pl, ql]) rfl ⟨by rw [HK.1, HK.2], ?_⟩
    exact qB
  ·have HK := HR.out j hj (fun h => absurd h hlt) hmj
   have ej : j = n := by omega
   subst ej
   go_wp2
   refine bodyPost_ret (v := .tuple #[.agg #[.int .i64 (att s (m - j)), .int .i64 (fin s (att s (m - j)))], .int .i64 j]) (by simp [results, results180, go_sem, c0, c1, d0, d1, cz, dz]) rfl ⟨by rw [HK.1, HK.2], ?_⟩
   exact qB
theorem qt16 {P : Prop} (h : P := by
  subst ea eb
  have h1 := beg_le s k
  have h2 := fin_ge s k
  have h3 := fin_le hk
  have HI : Hid (Nib.up (fun i => blk (bt s i)) (fin s k) (beg s k) = ind s k) := rfl
  generalize ind s k = I at *
  generalize fin s k = F at *
  generalize beg s k = B at *
  go_enter func187, ntmps187
  go_wp2
  go_loopw [11] (fun _ wr => ∃ q : Nat, B ≤ q ∧ q ≤ F ∧ Hid (Nib.up (fun i => blk (bt s i)) F q = I) ∧ wr = (((w.alloc (.cells #[.int .i64 B, .int .i64 F] 128)).alloc (.cells #[.int .i64 0, .int .i64 0] 128)).alloc (.cells #[.int .i64 B, .int .i64 q] 128))) (fun _ wr => F - (intOf ((wr.cell? ⟨w.heap.size + 1 + 1, 1, none⟩).getD undef)).toNat)
  case atStart => exact ⟨B, by omega, by omega, HI, rfl⟩
  case round =>
   clear HI
   obtain ⟨q, hq1, hq2, hu, rfl⟩ := hrel
   by_cases hlt : q < F
   ·have hq : q < s.size := by omega
    by_cases hc : blk (bt s q) = true
    ·have HS : Hid (Nib.up (fun i => blk (bt s i)) F (q + 1) = I) := by rw [Hid, ← hu.out, up_step hlt hc]
     have HC : Hid (cls (((s[q]'hq).toNat : Nat) : Int) false = 0) := by rw [Hid, ← bt_in hq]; unfold cls; rw [if_pos hc]
     clear hu hc
     go_wp2_with fail
     refine (tClass_any _ false _).mono ?_
     rintro e w' ⟨rfl, rfl⟩
     rw [HC.out]
     go_wp2
     go_round
     case rel => exact ⟨q + 1, by omega, by omega, HS, by simp⟩
     case measure => go_simp; simp [intOf] <;> omega
    ·have HZ : Hid (q = I) := by rw [Hid, ← hu.out, up_stop]; exact fun h => hc h.2
     have HC : Hid ((cls (((s[q]'hq).toNat : Nat) : Int) false == 0) = false) := by
      rw [Hid, ← bt_in hq]; unfold cls; rw [if_neg hc]; (repeat' split) <;> rfl
     clear hu hc
     go_wp2_with fail
     refine (tClass_any _ false _).mono ?_
     rintro e w' ⟨rfl, rfl⟩
     generalize cls (((s[q]'hq).toNat : Nat) : Int) false = C at *
     have HC' := HC.out
     go_wp2
     refine bodyPost_ret (v := .agg #[.int .i64 (B), .int .i64 (q)]) (by simp [results, results187, go_sem]) rfl ⟨by rw [HZ.out], ?_⟩
     exact qB
   ·have HZ : Hid (q = I) := by rw [Hid, ← hu.out, up_stop]; exact fun h => hlt h.1
    clear hu
    go_wp2
    refine bodyPost_ret (v := .agg #[.int .i64 (B), .int .i64 (q)]) (by simp [results, results187, go_sem]) rfl ⟨by rw [HZ.out], ?_⟩
    exact qB
 ) : P := h
theorem tIndent_any (s : ByteArray) (a b : Int) (k : Nat) (w : World) (hs : s.size ≤ 1000) (hk : k ≤ s.size) (ea : a = beg s k) (eb : b = fin s k) :
  qC 187 #[.string s, .agg #[.int .i64 (a), .int .i64 (b)]] w (.agg #[.int .i64 (beg s k), .int .i64 (ind s k)]) := by
 exact qt16
theorem qt53 {P : Prop} (h : P := by
  have HS : Hid (Nib.up (fun i => cls (bt s i) g == C) s.size (r + 1) = R) := by rw [Hid, ← hu.out, up_step hlt hc]
  have HC : Hid ((cls (((s[r]'hlt).toNat : Nat) : Int) g == C) = true) := by rw [Hid, ← bt_in hlt]; exact hc
  clear hu hc
  go_wp2_with fail
  refine (tClass_any _ g _).mono ?_
  rintro e w' ⟨rfl, rfl⟩
  generalize cls (((s[r]'hlt).toNat : Nat) : Int) g = D at *
  have HC' := HC.out
  go_wp2
  go_round
  case rel => exact ⟨r + 1, by omega, by omega, HS, by simp⟩
  case measure => go_simp; simp [intOf] <;> omega
 ) : P := h
theorem tRun_any (s : ByteArray) (p : Int) (k : Nat) (g : Bool) (w : World) (hs : s.size ≤ 1000) (e : p = k) (hk : k < s.size) (hn : bt s k ≠ 10) :
  qC 256 #[.string s, .int .i64 p, .bool g] w (.agg #[.int .i64 (runB s k g), .int .i64 (wrun s k g)]) := by
 subst e
 have hc' : (((s[k]'hk).toNat : Int) == 10) = false := by rw [← bt_in hk]; simp [hn]
 have HL : Hid (Nib.dn (fun i => cls (bt s i) g == cls (((s[k]'hk).toNat : Nat) : Int) g) k = runB s k g) := by rw [Hid, ← bt_in hk]; rfl
 have HR : Hid (Nib.up (fun i => cls (bt s i) g == cls (((s[k]'hk).toNat : Nat) : Int) g) s.size k = wrun s k g) := by rw [Hid, ← bt_in hk]; rfl
 have hL := runB_le s k g
 generalize runB s k g = L at *
 generalize wrun s k g = R at *
 go_enter func256, ntmps256
 go_wp2_with fail
 refine (tClass_any _ g _).mono ?_
 rintro e w' ⟨rfl, rfl⟩
 generalize cls (((s[k]'hk).toNat : Nat) : Int) g = C at *
 go_wp2
 go_loopw [28] (fun _ wr => ∃ q : Nat, q ≤ k ∧ Hid (Nib.dn (fun i => cls (bt s i) g == C) q = L) ∧ wr = ((w.alloc (.cells #[.int .i64 0, .int .i64 0] 128)).alloc (.cells #[.int .i64 q, .int .i64 k] 128))) (fun _ wr => (intOf ((wr.cell? ⟨w.heap.size + 1, 0, none⟩).getD undef)).toNat)
 case atStart => exact ⟨k, by omega, HL, rfl⟩
 case round =>
  clear HL
  obtain ⟨q, hq1, hu, rfl⟩ := hrel
  cases q with
  | zero =>
   have HZ : Hid (0 = L) := hu.out
   clear hu
   go_wp2
   go_loopw [46] (fun _ wr => ∃ z : Nat, k ≤ z ∧ z ≤ s.size ∧ Hid (Nib.up (fun i => cls (bt s i) g == C) s.size z = R) ∧ wr = ((w.alloc (.cells #[.int .i64 0, .int .i64 0] 128)).alloc (.cells #[.int .i64 (0), .int .i64 z] 128))) (fun _ wr => s.size - (intOf ((wr.cell? ⟨w.heap.size + 1, 1, none⟩).getD undef)).toNat)
   case atStart => exact ⟨k, by omega, by omega, HR, rfl⟩
   case round =>
    clear HR
    obtain ⟨r, hr1, hr2, hu, rfl⟩ := hrel
    by_cases hlt : r < s.size
    ·by_cases hc : (cls (bt s r) g == C) = true
     ·exact qt53
     ·have HZ2 : Hid (r = R) := by rw [Hid, ← hu.out, up_stop]; exact fun h => hc h.2
      have HC : Hid ((cls (((s[r]'hlt).toNat : Nat) : Int) g == C) = false) := by rw [Hid, ← bt_in hlt]; simpa using hc
      clear hu hc
      go_wp2_with fail
      refine (tClass_any _ g _).mono ?_
      rintro e w' ⟨rfl, rfl⟩
      generalize cls (((s[r]'hlt).toNat : Nat) : Int) g = D at *
      have HC' := HC.out
      go_wp2
      refine bodyPost_ret (v := .agg #[.int .i64 (0), .int .i64 (r)]) (by simp [results, results256, go_sem]) rfl ⟨by rw [← HZ.out, ← HZ2.out]; rfl, ?_⟩
      exact qB
    ·have HZ2 : Hid (r = R) := by rw [Hid, ← hu.out, up_stop]; exact fun h => hlt h.1
     clear hu
     go_wp2
     refine bodyPost_ret (v := .agg #[.int .i64 (0), .int .i64 (r)]) (by simp [results, results256, go_sem]) rfl ⟨by rw [← HZ.out, ← HZ2.out]; rfl, ?_⟩
     exact qB
  | succ q =>
   have hq : q < s.size := by omega
   by_cases hc : (cls (bt s q) g == C) = true
   ·have HS : Hid (Nib.dn (fun i => cls (bt s i) g == C) q = L) := by rw [Hid, ← hu.out, dn_step hc]
    have HC : Hid ((cls (((s[q]'hq).toNat : Nat) : Int) g == C) = true) := by rw [Hid, ← bt_in hq]; exact hc
    clear hu hc
    go_wp2_with fail
    refine (tClass_any _ g _).mono ?_
    rintro e w' ⟨rfl, rfl⟩
    generalize cls (((s[q]'hq).toNat : Nat) : Int) g = D at *
    have HC' := HC.out
    go_wp2
    go_round
    case rel => exact ⟨q, by omega, HS, by simp⟩
    case measure => go_simp; simp [intOf] <;> omega
   ·have HZ : Hid (q + 1 = L) := by rw [Hid, ← hu.out, dn_stop (by simpa using hc)]
    have HC : Hid ((cls (((s[q]'hq).toNat : Nat) : Int) g == C) = false) := by rw [Hid, ← bt_in hq]; simpa using hc
    clear hu hc
    go_wp2_with fail
    refine (tClass_any _ g _).mono ?_
    rintro e w' ⟨rfl, rfl⟩
    generalize cls (((s[q]'hq).toNat : Nat) : Int) g = D at *
    have HC' := HC.out
    go_wp2
    go_loopw [46] (fun _ wr => ∃ z : Nat, k ≤ z ∧ z ≤ s.size ∧ Hid (Nib.up (fun i => cls (bt s i) g == C) s.size z = R) ∧ wr = ((w.alloc (.cells #[.int .i64 0, .int .i64 0] 128)).alloc (.cells #[.int .i64 ((q : Int) + 1), .int .i64 z] 128))) (fun _ wr => s.size - (intOf ((wr.cell? ⟨w.heap.size + 1, 1, none⟩).getD undef)).toNat)
    case atStart => exact ⟨k, by omega, by omega, HR, rfl⟩
    case round =>
     clear HR
     obtain ⟨r, hr1, hr2, hu, rfl⟩ := hrel
     by_cases hlt : r < s.size
     ·by_cases hc : (cls (bt s r) g == C) = true
      ·exact qt53
      ·have HZ2 : Hid (r = R) := by rw [Hid, ← hu.out, up_stop]; exact fun h => hc h.2
       have HC : Hid ((cls (((s[r]'hlt).toNat : Nat) : Int) g == C) = false) := by rw [Hid, ← bt_in hlt]; simpa using hc
       clear hu hc
       go_wp2_with fail
       refine (tClass_any _ g _).mono ?_
       rintro e w' ⟨rfl, rfl⟩
       generalize cls (((s[r]'hlt).toNat : Nat) : Int) g = D at *
       have HC' := HC.out
       go_wp2
       refine bodyPost_ret (v := .agg #[.int .i64 ((q : Int) + 1), .int .i64 (r)]) (by simp [results, results256, go_sem]) rfl ⟨by rw [← HZ.out, ← HZ2.out]; rfl, ?_⟩
       exact qB
     ·have HZ2 : Hid (r = R) := by rw [Hid, ← hu.out, up_stop]; exact fun h => hlt h.1
      clear hu
      go_wp2
      refine bodyPost_ret (v := .agg #[.int .i64 ((q : Int) + 1), .int .i64 (r)]) (by simp [results, results256, go_sem]) rfl ⟨by rw [← HZ.out, ← HZ2.out]; rfl, ?_⟩
      exact qB
theorem ix0 (a b : Int) (w : World) : (Instr.index 128 (.agg #[.int .i64 (a), .int .i64 (b)]) (.int .i64 0)).run Tryz.prog w = .ok (.int .i64 a) w := by
 simp [Instr.index, run_underlying underlying128, asIntOf, go_sem, part]
theorem ix1 (a b : Int) (w : World) : (Instr.index 128 (.agg #[.int .i64 (a), .int .i64 (b)]) (.int .i64 1)).run Tryz.prog w = .ok (.int .i64 b) w := by
 simp [Instr.index, run_underlying underlying128, asIntOf, go_sem, part]
theorem tRun_none (s : ByteArray) (p : Int) (k : Nat) (g : Bool) (w : World) (hs : s.size ≤ 1000) (e : p = k) (hk : k ≤ s.size) (hn : ∀ h : k < s.size, bt s k = 10) :
  qC 256 #[.string s, .int .i64 p, .bool g] w (.agg #[.int .i64 (k), .int .i64 (k)]) := by
 subst e
 by_cases h : k < s.size
 ·have hc' : (((s[k]'h).toNat : Int) == 10) = true := by rw [← bt_in h]; simp [hn h]
  go_enter func256, ntmps256
  go_wp2
  refine bodyPost_ret (v := .agg #[.int .i64 (k), .int .i64 (k)]) (by simp [results, results256, go_sem]) rfl ⟨rfl, ?_⟩
  exact qB
 ·have e : k = s.size := by omega
  subst e
  clear hn
  go_enter func256, ntmps256
  go_wp2
  refine bodyPost_ret (v := .agg #[.int .i64 (s.size), .int .i64 (s.size)]) (by simp [results, results256, go_sem]) rfl ⟨rfl, ?_⟩
  exact qB
theorem qt27 {P : Prop} (h : P := by
  generalize max ((beg s k : Nat) : Int) (((fin s k : Nat) : Int) - 1) = M at *
  generalize frs s k = R at *
  generalize ind s k = I at *
  generalize beg s k = B at *
  generalize fin s k = F at *
  have HF' : Hid ((R : Int) = min (I : Int) M) := HF
  clear HF
  have hx := ix1 B I
  go_enter func243, ntmps243
  go_wp2_with fail
  go_region_held3 (fun ww => ww.cell? ⟨w.heap.size, 0, none⟩ = some (.int .i64 B) ∧ ww.cell? ⟨w.heap.size, 1, none⟩ = some (.int .i64 F)) ((refine ⟨?_, ?_⟩ <;> go_simp)) (first | (go_at_call 187; refine (HI.out _).mono ?_; rintro r1 w1 ⟨rfl, h1⟩; obtain ⟨hc1, hf1, hz1⟩ := qb h1; (try simp at hz1); (try have ⟨hl1_0, hk1_0⟩ := qL w.heap.size w1.heap.size)) | (go_at_call 202; refine (HL.out _).mono ?_; rintro r2 w2 ⟨rfl, h2⟩; obtain ⟨hc2, hf2, hz2⟩ := qb h2; (try simp at hz2); (try have ⟨hl2_0, hk2_0⟩ := qL w.heap.size w2.heap.size)))
  go_wp2
  all_goals
   first
    | (refine bodyPost_ret (v := .int .i64 M) (by simp [results, results243, go_sem]) rfl ⟨ret_int (by rw [HF'.out]; omega), ?_⟩ <;> exact qB)
    | (refine bodyPost_ret (v := .int .i64 I) (by simp [results, results243, go_sem]) rfl ⟨ret_int (by rw [HF'.out]; omega), ?_⟩ <;> exact qB)
 ) : P := h
theorem tFirst_any (s : ByteArray) (a b : Int) (k : Nat) (w : World) (hs : s.size ≤ 1000) (hk : k ≤ s.size) (ea : a = beg s k) (eb : b = fin s k) :
  qC 243 #[.string s, .agg #[.int .i64 (a), .int .i64 (b)]] w (.int .i64 (frs s k)) := by
 subst ea eb
 have hf := fin_le hk
 have HF := frs_min s k hk
 rw [lst_max] at HF
 have HI : qH 187 #[.string s, .agg #[.int .i64 (beg s k), .int .i64 (fin s k)]] (.agg #[.int .i64 (beg s k), .int .i64 (ind s k)]) := fun ww => tIndent_any s _ _ k ww hs hk rfl rfl
 have HL : qH 202 #[.agg #[.int .i64 (beg s k), .int .i64 (fin s k)]] (.int .i64 (max ((beg s k : Nat) : Int) (((fin s k : Nat) : Int) - 1))) := fun ww => tLast_any _ _ ww qo
 exact qt27
theorem tEnd_any (s : ByteArray) (w : World) :
  Calls Tryz.prog 246 #[.string s] w fun e w' => e = .returned (.int .i64 s.size) ∧ w' = w := by
 go_enter func246, ntmps246
 go_wp2
 go_ret
 exact ⟨rfl, rfl⟩
theorem sNumber_any (s : ByteArray) (p n : Int) (v c : Bool) (w : World) :
  qC 241 #[.agg #[.string s, .int .i64 (p), .int .i64 (n), .bool v, .bool c]] w (.int .i64 (max n 1)) := by
 go_enter func241, ntmps241
 go_wp2
 all_goals
  first
   | (refine bodyPost_ret (v := .int .i64 n) (by simp [results, results241, go_sem]) rfl ⟨ret_int qo, ?_⟩ <;> exact qB)
   | (refine bodyPost_ret (v := .int .i64 1) (by simp [results, results241, go_sem]) rfl ⟨ret_int qo, ?_⟩ <;> exact qB)
theorem sLine_any (s : ByteArray) (p n : Int) (v c : Bool) (k : Nat) (w : World) (hs : s.size ≤ 1000) (e : p = k) (hk : k ≤ s.size) :
  qC 239 #[.agg #[.string s, .int .i64 (p), .int .i64 (n), .bool v, .bool c]] w (.agg #[.int .i64 (beg s k), .int .i64 (fin s k)]) := by
 subst e
 have HL : qH 195 #[.string s, .int .i64 k] (.agg #[.int .i64 (beg s k), .int .i64 (fin s k)]) := fun ww => tLine_any s k k ww hs rfl hk
 generalize beg s k = B at *
 generalize fin s k = F at *
 go_enter func239, ntmps239
 go_wp2_with fail
 refine (HL.out _).mono ?_
 rintro e w1 ⟨rfl, h1⟩
 obtain ⟨hc1, hf1, hz1⟩ := qb h1
 try simp at hz1
 go_wp2
 refine bodyPost_ret (v := .agg #[.int .i64 (B), .int .i64 (F)]) (by simp [results, results239, go_sem, hc1]) rfl ⟨rfl, ?_⟩
 exact qB
def wayX (r : Int × Int × Bool) : Int := if r.2.2 = true then 0 else r.1
def wayK (r : Int × Int × Bool) : Int := if r.2.2 = true then 0 else r.2.1
def wayZ (r : Int × Int × Bool) : Bool := !r.2.2
theorem wayX_t (a b : Int) : wayX (a, b, true) = 0 := rfl
theorem wayK_t (a b : Int) : wayK (a, b, true) = 0 := rfl
theorem wayZ_t (a b : Int) : wayZ (a, b, true) = false := rfl
theorem wayX_f (a b : Int) : wayX (a, b, false) = a := rfl
theorem wayK_f (a b : Int) : wayK (a, b, false) = b := rfl
theorem wayZ_f (a b : Int) : wayZ (a, b, false) = true := rfl
def wayEq (r t : Int × Int × Bool) : Prop := r.2.2 = t.2.2 ∧ (r.2.2 = false → r.1 = t.1 ∧ r.2.1 = t.2.1)
theorem wayEq.all {r t : Int × Int × Bool} (h : wayEq r t) : wayX r = wayX t ∧ wayK r = wayK t ∧ wayZ r = wayZ t := by
 obtain ⟨a, b, c⟩ := r
 obtain ⟨a', b', c'⟩ := t
 obtain ⟨h1, h2⟩ := h
 simp only at h1 h2
 subst h1
 cases c with
 | true => exact ⟨rfl, rfl, rfl⟩
 | false => obtain ⟨rfl, rfl⟩ := h2 rfl; exact ⟨rfl, rfl, rfl⟩
theorem sUnless_any (s : ByteArray) (p n q kind : Int) (v c : Bool) (w : World) :
  qC 240 #[.agg #[.string s, .int .i64 (p), .int .i64 (n), .bool v, .bool c], .int .i64 q, .int .i64 kind] w (.tuple #[.agg #[.int .i64 (wayX ((q, kind, q == p))), .int .i64 (wayK ((q, kind, q == p)))], .bool (wayZ ((q, kind, q == p)))]) := by
 by_cases h : q = p
 ·subst h
  simp only [beq_self_eq_true, wayX_t, wayK_t, wayZ_t]
  go_enter func240, ntmps240
  go_wp2
  refine bodyPost_ret (v := .tuple #[.agg #[.int .i64 0, .int .i64 0], .bool false]) (by simp [results, results240, go_sem]) rfl ⟨rfl, ?_⟩
  exact qB
 ·have hb : (q == p) = false := by simp [h]
  rw [hb, wayX_f, wayK_f, wayZ_f]
  go_enter func240, ntmps240
  go_wp2
  refine bodyPost_ret (v := .tuple #[.agg #[.int .i64 q, .int .i64 kind], .bool true]) (by simp [results, results240, go_sem]) rfl ⟨rfl, ?_⟩
  exact qB
theorem sUnless_way {r : Int × Int × Bool} (s : ByteArray) (p n q kind : Int) (v c : Bool) (w : World) (h : wayEq (q, kind, q == p) r) :
  qC 240 #[.agg #[.string s, .int .i64 (p), .int .i64 (n), .bool v, .bool c], .int .i64 q, .int .i64 kind] w (.tuple #[.agg #[.int .i64 (wayX (r)), .int .i64 (wayK (r))], .bool (wayZ (r))]) := by
 have := sUnless_any s p n q kind v c w
 rwa [h.all.1, h.all.2.1, h.all.2.2] at this
theorem sHasInk_any (s : ByteArray) (p : Int) (k : Nat) (w : World) (hs : s.size ≤ 1000) (e : p = k) (hk : k ≤ s.size) :
  Calls Tryz.prog 247 #[.string s, .int .i64 p] w fun e w' => e = .returned (.bool (decide (k < s.size) && !spc (bt s k))) ∧ w' = w := by
 subst e
 by_cases h : k < s.size
 ·have HC : Hid ((decide (k < s.size) && !spc (bt s k)) = decide (2 ≤ cls (bt s k) false)) := by
   rw [Hid]; simp only [h, decide_true, Bool.true_and]
   cases hq : spc (bt s k) with
   | true => have := cls_spc (g := false) hq; simp; omega
   | false => have := cls_nsp (g := false) hq; simp; omega
  have hlo := cls_lo (bt s k) false
  have hhi := cls_hi (bt s k) false
  rw [HC.out]
  clear HC
  rw [bt_in h] at *
  have hne : ((k : Int) == (s.size : Int)) = false := by simp; omega
  have HT : Hid (∀ ww, Calls Tryz.prog 225 #[.int .u8 (((s[k]'h).toNat : Nat) : Int), .bool false] ww fun e w' => e = .returned (.int .i64 (cls (((s[k]'h).toNat : Nat) : Int) false)) ∧ w' = ww) := fun ww => tClass_any _ false ww
  generalize cls (((s[k]'h).toNat : Nat) : Int) false = C at *
  go_enter func247, ntmps247
  go_wp2_with fail
  refine (tEnd_any s _).mono ?_
  rintro e w' ⟨rfl, rfl⟩
  go_wp2_with fail
  refine (HT.out _).mono ?_
  rintro e w' ⟨rfl, rfl⟩
  go_wp2
  all_goals
   go_ret
   exact ⟨ret_bool (by rw [Bool.eq_iff_iff]; simp; omega), rfl⟩
 ·have e : k = s.size := by omega
  subst e
  simp only [Nat.lt_irrefl, decide_false, Bool.false_and]
  go_enter func247, ntmps247
  go_wp2
  go_ret
  exact ⟨rfl, rfl⟩
theorem sFurthest_any (s : ByteArray) (p n a b : Int) (v c : Bool) (w : World) (hb : -5000 ≤ b ∧ b ≤ 5000) :
  qC 242 #[.agg #[.string s, .int .i64 (p), .int .i64 (n), .bool v, .bool c], .agg #[.int .i64 (a), .int .i64 (b)]] w (.int .i64 (if v = true then b else max a (b - 1))) := by
 cases v with
 | true =>
  go_enter func242, ntmps242
  go_wp2
  refine bodyPost_ret (v := .int .i64 b) (by simp [results, results242, go_sem]) rfl ⟨rfl, ?_⟩
  exact qB
 | false =>
  have HL : qH 202 #[.agg #[.int .i64 (a), .int .i64 (b)]] (.int .i64 (max a (b - 1))) := fun ww => tLast_any a b ww hb
  generalize max a (b - 1) = M at *
  go_enter func242, ntmps242
  go_wp2_with fail
  refine (HL.out _).mono ?_
  rintro e w1 ⟨rfl, h1⟩
  obtain ⟨hc1, hf1, hz1⟩ := qb h1
  try simp at hz1
  go_wp2
  refine bodyPost_ret (v := .int .i64 M) (by simp [results, results242, go_sem]) rfl ⟨rfl, ?_⟩
  exact qB
theorem sInLine_h (s : ByteArray) (p n : Nat) (v c : Bool) (w : World) (hs : s.size ≤ 1000) (hp : p ≤ s.size) (hn : n ≤ 99) :
  qC 205 #[.agg #[.string s, .int .i64 (p), .int .i64 (n), .bool v, .bool c], .int .u8 104] w (.tuple #[.agg #[.int .i64 (wayX (wayH s p (max n 1))), .int .i64 (wayK (wayH s p (max n 1)))], .bool (wayZ (wayH s p (max n 1)))]) := by
 have HL : qH 239 #[.agg #[.string s, .int .i64 (p), .int .i64 (n), .bool v, .bool c]] (.agg #[.int .i64 (beg s p), .int .i64 (fin s p)]) := fun ww => sLine_any s p n v c p ww hs rfl hp
 have HN : qH 241 #[.agg #[.string s, .int .i64 (p), .int .i64 (n), .bool v, .bool c]] (.int .i64 (max (n : Int) 1)) := fun ww => sNumber_any s p n v c ww
 have HR : Hid (wayH s p (max n 1) = (if (p : Int) - max (n : Int) 1 < beg s p then (beg s p : Int) else (p : Int) - max (n : Int) 1, 0, (p : Int) == (beg s p : Int))) := by
  have : ((max n 1 : Nat) : Int) = max (n : Int) 1 := by omega
  rw [Hid, wayH, this]
 generalize wayH s p (max n 1) = R at *
 have hN1 : 1 ≤ max (n : Int) 1 := by omega
 have hN2 : max (n : Int) 1 ≤ 99 := by omega
 generalize max (n : Int) 1 = N at *
 have hb := beg_le s p
 generalize beg s p = B at *
 generalize fin s p = F at *
 have hw : IntKind.i64.wrap ((p : Int) - N) = (p : Int) - N := by rw [IntKind.wrap_i64]; omega
 have HU : qH 240 #[.agg #[.string s, .int .i64 (p), .int .i64 (n), .bool v, .bool c], .int .i64 (if (p : Int) - N < B then (B : Int) else (p : Int) - N), .int .i64 0] (.tuple #[.agg #[.int .i64 (wayX (R)), .int .i64 (wayK (R))], .bool (wayZ (R))]) := by
  intro ww
  refine sUnless_way s p n _ 0 v c ww ?_
  rw [HR.out]
  refine ⟨?_, fun _ => ⟨rfl, rfl⟩⟩
  simp only
  rw [Bool.eq_iff_iff]; simp only [beq_iff_eq]
  split <;> omega
 clear HR
 generalize hX : (if (p : Int) - N < B then (B : Int) else (p : Int) - N) = X at HU
 go_enter func205, ntmps205
 go_wp2_with fail
 refine (HL.out _).mono ?_
 rintro e w1 ⟨rfl, h1⟩
 obtain ⟨hc1, hf1, hz1⟩ := qb h1
 try simp at hz1
 have hb1_0 := fun o => hc1 (w.heap.size) o qO
 have fb1_0 := fun o => hf1 (w.heap.size) o qO
 have ⟨hg1_0, hh1_0⟩ := qL w.heap.size w1.heap.size
 have hb1_1 := fun o => hc1 (w.heap.size + 1) o qO
 have fb1_1 := fun o => hf1 (w.heap.size + 1) o qO
 have ⟨hg1_1, hh1_1⟩ := qL (w.heap.size + 1) w1.heap.size
 go_wp2_with fail
 go_region_held3 (fun ww => ww.cell? ⟨w.heap.size, 0, none⟩ = some (.string s) ∧ ww.cell? ⟨w.heap.size, 1, none⟩ = some (.int .i64 p) ∧ ww.cell? ⟨w.heap.size, 2, none⟩ = some (.int .i64 n) ∧ ww.cell? ⟨w.heap.size, 3, none⟩ = some (.bool v) ∧ ww.cell? ⟨w.heap.size, 4, none⟩ = some (.bool c) ∧ ww.cell? ⟨w1.heap.size, 0, none⟩ = some (.int .i64 B) ∧ ww.cell? ⟨w1.heap.size, 1, none⟩ = some (.int .i64 F)) ((refine ⟨?_, ?_, ?_, ?_, ?_, ?_, ?_⟩ <;> go_simp)) (first | (go_at_call 241; refine (HN.out _).mono ?_; rintro r2 w2 ⟨rfl, h2⟩; obtain ⟨hc2, hf2, hz2⟩ := qb h2; (try simp at hz2); (try have ⟨hl2_0, hk2_0⟩ := qL w.heap.size w2.heap.size); (try have ⟨hl2_1, hk2_1⟩ := qL w1.heap.size w2.heap.size); have hb2_0 := fun o => hc2 (w.heap.size + 1) o qO; have fb2_0 := fun o => hf2 (w.heap.size + 1) o qO; (try have ⟨hg2_0, hh2_0⟩ := qL (w.heap.size + 1) w2.heap.size)) | (go_at_call 240; refine (HU.out _).mono ?_; rintro r3 w3 ⟨rfl, h3⟩; obtain ⟨hc3, hf3, hz3⟩ := qb h3; (try simp at hz3); (try have ⟨hl3_0, hk3_0⟩ := qL w.heap.size w3.heap.size); (try have ⟨hl3_1, hk3_1⟩ := qL w1.heap.size w3.heap.size); have hb3_0 := fun o => hc3 (w.heap.size + 1) o qO; have fb3_0 := fun o => hf3 (w.heap.size + 1) o qO; (try have ⟨hg3_0, hh3_0⟩ := qL (w.heap.size + 1) w3.heap.size)))
 go_wp2
 all_goals
  first
   | (refine bodyPost_ret (v := .tuple #[.agg #[.int .i64 (wayX (R)), .int .i64 (wayK (R))], .bool (wayZ (R))]) (by simp [results, results205, go_sem, hb1_1, hb2_0, hb3_0, hg1_1, hg2_0, hg3_0]) rfl ⟨rfl, ?_⟩ <;> exact qB)
theorem sInLine_l (s : ByteArray) (p n : Nat) (v c : Bool) (w : World) (hs : s.size ≤ 1000) (hp : p ≤ s.size) (hn : n ≤ 99) (hl : p ≤ mostL s p v) :
  qC 205 #[.agg #[.string s, .int .i64 (p), .int .i64 (n), .bool v, .bool c], .int .u8 108] w (.tuple #[.agg #[.int .i64 (wayX (wayL s p (max n 1) v)), .int .i64 (wayK (wayL s p (max n 1) v))], .bool (wayZ (wayL s p (max n 1) v))]) := by
 have hf := fin_le hp
 have HL : qH 239 #[.agg #[.string s, .int .i64 (p), .int .i64 (n), .bool v, .bool c]] (.agg #[.int .i64 (beg s p), .int .i64 (fin s p)]) := fun ww => sLine_any s p n v c p ww hs rfl hp
 have HN : qH 241 #[.agg #[.string s, .int .i64 (p), .int .i64 (n), .bool v, .bool c]] (.int .i64 (max (n : Int) 1)) := fun ww => sNumber_any s p n v c ww
 have HM : qH 242 #[.agg #[.string s, .int .i64 (p), .int .i64 (n), .bool v, .bool c], .agg #[.int .i64 (beg s p), .int .i64 (fin s p)]] (.int .i64 (mostL s p v : Nat)) := by
  intro ww
  have := sFurthest_any s p n (beg s p) (fin s p) v c ww qo
  have e : ((mostL s p v : Nat) : Int) = if v = true then ((fin s p : Nat) : Int) else max ((beg s p : Nat) : Int) (((fin s p : Nat) : Int) - 1) := by
   unfold mostL; rw [← lst_max]; split <;> rfl
  rw [e]; exact this
 have HR : Hid (wayL s p (max n 1) v = (if (mostL s p v : Int) < (p : Int) + max (n : Int) 1 then (mostL s p v : Int) else (p : Int) + max (n : Int) 1, 0, decide ((if (mostL s p v : Int) < (p : Int) + max (n : Int) 1 then (mostL s p v : Int) else (p : Int) + max (n : Int) 1) ≤ (p : Int)))) := by
  have : ((max n 1 : Nat) : Int) = max (n : Int) 1 := by omega
  rw [Hid, wayL, this]
 generalize wayL s p (max n 1) v = R at *
 have hN1 : 1 ≤ max (n : Int) 1 := by omega
 have hN2 : max (n : Int) 1 ≤ 99 := by omega
 generalize max (n : Int) 1 = N at *
 generalize mostL s p v = M at *
 generalize beg s p = B at *
 generalize fin s p = F at *
 have hw : IntKind.i64.wrap ((p : Int) + N) = (p : Int) + N := by rw [IntKind.wrap_i64]; omega
 have HU : qH 240 #[.agg #[.string s, .int .i64 (p), .int .i64 (n), .bool v, .bool c], .int .i64 (if (M : Int) < (p : Int) + N then (M : Int) else (p : Int) + N), .int .i64 0] (.tuple #[.agg #[.int .i64 (wayX (R)), .int .i64 (wayK (R))], .bool (wayZ (R))]) := by
  intro ww
  refine sUnless_way s p n _ 0 v c ww ?_
  rw [HR.out]
  refine ⟨?_, fun _ => ⟨rfl, rfl⟩⟩
  simp only
  rw [Bool.eq_iff_iff]; simp only [beq_iff_eq, decide_eq_true_eq]
  split <;> omega
 clear HR
 generalize hX : (if (M : Int) < (p : Int) + N then (M : Int) else (p : Int) + N) = X at HU
 go_enter func205, ntmps205
 go_wp2_with fail
 refine (HL.out _).mono ?_
 rintro e w1 ⟨rfl, h1⟩
 obtain ⟨hc1, hf1, hz1⟩ := qb h1
 try simp at hz1
 have hb1_0 := fun o => hc1 (w.heap.size) o qO
 have fb1_0 := fun o => hf1 (w.heap.size) o qO
 have ⟨hg1_0, hh1_0⟩ := qL w.heap.size w1.heap.size
 have hb1_1 := fun o => hc1 (w.heap.size + 1) o qO
 have fb1_1 := fun o => hf1 (w.heap.size + 1) o qO
 have ⟨hg1_1, hh1_1⟩ := qL (w.heap.size + 1) w1.heap.size
 go_wp2_with fail
 go_region_held3 (fun ww => ww.cell? ⟨w.heap.size, 0, none⟩ = some (.string s) ∧ ww.cell? ⟨w.heap.size, 1, none⟩ = some (.int .i64 p) ∧ ww.cell? ⟨w.heap.size, 2, none⟩ = some (.int .i64 n) ∧ ww.cell? ⟨w.heap.size, 3, none⟩ = some (.bool v) ∧ ww.cell? ⟨w.heap.size, 4, none⟩ = some (.bool c) ∧ ww.cell? ⟨w1.heap.size, 0, none⟩ = some (.int .i64 B) ∧ ww.cell? ⟨w1.heap.size, 1, none⟩ = some (.int .i64 F)) ((refine ⟨?_, ?_, ?_, ?_, ?_, ?_, ?_⟩ <;> go_simp)) (first | (go_at_call 241; refine (HN.out _).mono ?_; rintro r2 w2 ⟨rfl, h2⟩; obtain ⟨hc2, hf2, hz2⟩ := qb h2; (try simp at hz2); (try have ⟨hl2_0, hk2_0⟩ := qL w.heap.size w2.heap.size); (try have ⟨hl2_1, hk2_1⟩ := qL w1.heap.size w2.heap.size); have hb2_0 := fun o => hc2 (w.heap.size + 1) o qO; have fb2_0 := fun o => hf2 (w.heap.size + 1) o qO; (try have ⟨hg2_0, hh2_0⟩ := qL (w.heap.size + 1) w2.heap.size)) | (go_at_call 242; refine (HM.out _).mono ?_; rintro r3 w3 ⟨rfl, h3⟩; obtain ⟨hc3, hf3, hz3⟩ := qb h3; (try simp at hz3); (try have ⟨hl3_0, hk3_0⟩ := qL w.heap.size w3.heap.size); (try have ⟨hl3_1, hk3_1⟩ := qL w1.heap.size w3.heap.size); have hb3_0 := fun o => hc3 (w.heap.size + 1) o qO; have fb3_0 := fun o => hf3 (w.heap.size + 1) o qO; (try have ⟨hg3_0, hh3_0⟩ := qL (w.heap.size + 1) w3.heap.size)) | (go_at_call 240; refine (HU.out _).mono ?_; rintro r4 w4 ⟨rfl, h4⟩; obtain ⟨hc4, hf4, hz4⟩ := qb h4; (try simp at hz4); (try have ⟨hl4_0, hk4_0⟩ := qL w.heap.size w4.heap.size); (try have ⟨hl4_1, hk4_1⟩ := qL w1.heap.size w4.heap.size); have hb4_0 := fun o => hc4 (w.heap.size + 1) o qO; have fb4_0 := fun o => hf4 (w.heap.size + 1) o qO; (try have ⟨hg4_0, hh4_0⟩ := qL (w.heap.size + 1) w4.heap.size)))
 go_wp2
 all_goals
  first
   | (refine bodyPost_ret (v := .tuple #[.agg #[.int .i64 (wayX (R)), .int .i64 (wayK (R))], .bool (wayZ (R))]) (by simp [results, results205, go_sem, hb1_1, hb2_0, hb3_0, hb4_0, hg1_1, hg2_0, hg3_0, hg4_0]) rfl ⟨rfl, ?_⟩ <;> exact qB)
theorem tOf_any (s : ByteArray) (a b : Int) (i j : Nat) (w : World) (hs : s.size ≤ 1000) (ea : a = i) (eb : b = j) (h : i ≤ j) (hj : j ≤ s.size) :
  qC 87 #[.string s, .agg #[.int .i64 (a), .int .i64 (b)]] w (.string (s.extract i j)) := by
 subst ea eb
 go_enter func87, ntmps87
 go_wp2
 refine bodyPost_ret (v := .string (s.extract i j)) (by simp [results, results87, go_sem]) rfl ⟨rfl, ?_⟩
 exact qB
theorem tWith_any (s t : ByteArray) (a b : Int) (i j : Nat) (w : World) (hs : s.size ≤ 1000) (ht : t.size ≤ 1000000) (ea : a = i) (eb : b = j) (h : i ≤ j) (hj : j ≤ s.size) :
  qC 192 #[.string s, .agg #[.int .i64 (a), .int .i64 (b)], .string t] w (.string (s.extract 0 i ++ t ++ s.extract j s.size)) := by
 subst ea eb
 have f1 : (0 : Int) ≤ i := by omega
 have f2 : (0 : Int) ≤ j := by omega
 have f3 : (i : Int) ≤ s.size := by omega
 have f4 : (j : Int) ≤ s.size := by omega
 have f5 : ¬ 9223372036854775807 < min i s.size + t.size := by omega
 have f6 : ¬ 9223372036854775807 < min i s.size + t.size + (s.size - j) := by omega
 go_enter func192, ntmps192
 go_wp2
 go_region_held3 (fun ww => ww.cell? ⟨w.heap.size, 0, none⟩ = some (.int .i64 i) ∧ ww.cell? ⟨w.heap.size, 1, none⟩ = some (.int .i64 j)) ((refine ⟨?_, ?_⟩ <;> go_simp)) (fail)
 go_wp2
 refine bodyPost_ret (v := .string (s.extract 0 i ++ t ++ s.extract j s.size)) (by simp [results, results192, go_sem]) rfl ⟨rfl, ?_⟩
 exact qB
theorem tNothing_any (a b : Int) (l : Bool) (w : World) :
  qC 172 #[.agg #[.int .i64 a, .int .i64 b, .bool l]] w (.bool (a == b && !l)) := by
 go_enter func172, ntmps172
 go_wp2_with fail
 refine (tIsEmpty_any a b _).mono ?_
 rintro e w1 ⟨rfl, h1⟩
 obtain ⟨hc1, hf1, hz1⟩ := qb h1
 try simp at hz1
 go_wp2
 ·refine bodyPost_ret (v := .bool (!l)) (by simp [results, results172, go_sem]) rfl ⟨by rename_i hh; simp [hh], ?_⟩
  exact qB
 ·refine bodyPost_ret (v := .bool false) (by simp [results, results172, go_sem]) rfl ⟨by rename_i hh; simp [hh], ?_⟩
  exact qB
theorem tLines_any (s : ByteArray) (p q : Int) (k m : Nat) (w : World) (hs : s.size ≤ 1000) (ep : p = k) (eq : q = m) (hk : k ≤ s.size) (hm : m ≤ s.size) :
  qC 182 #[.string s, .int .i64 p, .int .i64 q] w (.agg #[.int .i64 (min (beg s k) (beg s m)), .int .i64 (max (fin s k) (fin s m)), .bool true]) := by
 generalize hV : min (beg s k : Int) (beg s m) = V
 generalize hU : max (fin s k : Int) (fin s m) = U
 have H1 := fun ww => tLine_any s p k ww hs ep hk
 have H2 := fun ww => tLine_any s q m ww hs eq hm
 have H3 := fun ww => tJoin_any (beg s k) (fin s k) (beg s m) (fin s m) ww
 rw [hV, hU] at H3
 generalize (beg s k : Int) = A at *
 generalize (fin s k : Int) = B at *
 generalize (beg s m : Int) = C at *
 generalize (fin s m : Int) = D at *
 have G1 : qH 195 #[.string s, .int .i64 p] (.agg #[.int .i64 (A), .int .i64 (B)]) := H1
 have G2 : qH 195 #[.string s, .int .i64 q] (.agg #[.int .i64 (C), .int .i64 (D)]) := H2
 have G3 : qH 196 #[.agg #[.int .i64 (A), .int .i64 (B)], .agg #[.int .i64 (C), .int .i64 (D)]] (.agg #[.int .i64 (V), .int .i64 (U)]) := H3
 clear H1 H2 H3 hV hU ep eq hk hm hs
 go_enter func182, ntmps182
 go_wp2_with fail
 refine (G1.out _).mono ?_
 rintro e w1 ⟨rfl, h1⟩
 obtain ⟨hc1, hf1, hz1⟩ := qb h1
 try simp at hz1
 go_wp2_with fail
 refine (G2.out _).mono ?_
 rintro e w2 ⟨rfl, h2⟩
 obtain ⟨hc2, hf2, hz2⟩ := qb h2
 try simp at hz2
 go_wp2_with fail
 refine (G3.out _).mono ?_
 rintro e w3 ⟨rfl, h3⟩
 obtain ⟨hc3, hf3, hz3⟩ := qb h3
 try simp at hz3
 have l1 : w.heap.size < w1.heap.size := by omega
 have l2 : w.heap.size < w2.heap.size := by omega
 have l3 : w.heap.size < w3.heap.size := by omega
 have z0 := fun o => (hf3 w.heap.size o l2).trans ((hf2 w.heap.size o l1).trans (hf1 w.heap.size o qi))
 simp at z0
 have c0 := fun o => (hc3 w.heap.size o l2).trans ((hc2 w.heap.size o l1).trans (hc1 w.heap.size o qi))
 have c1 := c0 0
 have c2 := c0 1
 have c3 := c0 2
 simp at c1 c2 c3
 clear hc1 hc2 hc3 hf1 hf2 hf3 c0
 go_wp2
 refine bodyPost_ret (v := .agg #[.int .i64 V, .int .i64 U, .bool true]) (by simp [results, results182, go_sem, c1, c2, c3, z0, l3]) rfl ⟨rfl, ?_⟩
 exact qB
theorem sTaken_out (s : ByteArray) (p n q : Int) (v c : Bool) (w : World) :
  qC 203 #[.agg #[.string s, .int .i64 (p), .int .i64 (n), .bool v, .bool c], .agg #[.int .i64 (q), .int .i64 (0)]] w (.agg #[.int .i64 (min p q), .int .i64 (max p q), .bool false]) := by
 rcases Int.lt_trichotomy p q with h | h | h
 ·rw [show min p q = p by omega, show max p q = q by omega]
  go_enter func203, ntmps203
  go_wp2
  refine bodyPost_ret (v := .agg #[.int .i64 p, .int .i64 q, .bool false]) (by simp [results, results203, go_sem]) rfl ⟨rfl, ?_⟩
  exact qB
 ·subst h; rw [Int.min_self, Int.max_self]
  go_enter func203, ntmps203
  go_wp2
  refine bodyPost_ret (v := .agg #[.int .i64 p, .int .i64 p, .bool false]) (by simp [results, results203, go_sem]) rfl ⟨rfl, ?_⟩
  exact qB
 ·rw [show min p q = q by omega, show max p q = p by omega]
  go_enter func203, ntmps203
  go_wp2
  refine bodyPost_ret (v := .agg #[.int .i64 q, .int .i64 p, .bool false]) (by simp [results, results203, go_sem]) rfl ⟨rfl, ?_⟩
  exact qB
theorem sTaken_in (s : ByteArray) (p n q : Int) (v c : Bool) (w : World) (hp : 0 ≤ p ∧ p ≤ 5000) (hq : 0 ≤ q ∧ q ≤ 5000) :
  qC 203 #[.agg #[.string s, .int .i64 (p), .int .i64 (n), .bool v, .bool c], .agg #[.int .i64 (q), .int .i64 (1)]] w (.agg #[.int .i64 (min p q), .int .i64 (max p q + 1), .bool false]) := by
 rcases Int.lt_trichotomy p q with h | h | h
 ·rw [show min p q = p by omega, show max p q = q by omega]
  go_enter func203, ntmps203
  go_wp2
  refine bodyPost_ret (v := .agg #[.int .i64 p, .int .i64 (q + 1), .bool false]) (by simp [results, results203, go_sem]) rfl ⟨rfl, ?_⟩
  exact qB
 ·subst h; rw [Int.min_self, Int.max_self]
  go_enter func203, ntmps203
  go_wp2
  refine bodyPost_ret (v := .agg #[.int .i64 p, .int .i64 (p + 1), .bool false]) (by simp [results, results203, go_sem]) rfl ⟨rfl, ?_⟩
  exact qB
 ·rw [show min p q = q by omega, show max p q = p by omega]
  go_enter func203, ntmps203
  go_wp2
  refine bodyPost_ret (v := .agg #[.int .i64 q, .int .i64 (p + 1), .bool false]) (by simp [results, results203, go_sem]) rfl ⟨rfl, ?_⟩
  exact qB
theorem qt21 {P : Prop} (h : P := by
  go_enter func203, ntmps203
  go_wp2_with fail
  refine (HL.out _).mono ?_
  rintro e w1 ⟨rfl, h1⟩
  obtain ⟨hc1, hf1, hz1⟩ := qb h1
  try simp at hz1
  have l1 : w.heap.size + 1 + 1 < w1.heap.size := by omega
  have z0 : ∀ o, w1.frozen? ⟨w.heap.size + 1 + 1, o, none⟩ = false := by intro o; rw [hf1 _ _ qi]; go_simp
  have c1 : w1.cell? ⟨w.heap.size + 1 + 1, 0, none⟩ = some (.int .i64 0) := by rw [hc1 _ _ qi]; go_simp
  have c2 : w1.cell? ⟨w.heap.size + 1 + 1, 1, none⟩ = some (.int .i64 0) := by rw [hc1 _ _ qi]; go_simp
  have c3 : w1.cell? ⟨w.heap.size + 1 + 1, 2, none⟩ = some (.bool false) := by rw [hc1 _ _ qi]; go_simp
  clear hc1 hf1
  go_wp2
  refine bodyPost_ret (v := .agg #[.int .i64 X, .int .i64 Y, .bool true]) (by simp [results, results203, go_sem, c1, c2, c3, z0, l1]) rfl ⟨rfl, ?_⟩
  exact qB
 ) : P := h
theorem sTaken_lines (s : ByteArray) (p q : Nat) (n : Int) (v c : Bool) (w : World) (hs : s.size ≤ 1000) (hp : p ≤ s.size) (hq : q ≤ s.size) :
  qC 203 #[.agg #[.string s, .int .i64 (p), .int .i64 (n), .bool v, .bool c], .agg #[.int .i64 (q), .int .i64 (2)]] w (.agg #[.int .i64 (min (beg s p) (beg s q)), .int .i64 (max (fin s p) (fin s q)), .bool true]) := by
 rcases Nat.lt_trichotomy p q with h | h | h
 ·have HL : qH 182 #[.string s, .int .i64 p, .int .i64 q] (.agg #[.int .i64 (min (beg s p) (beg s q)), .int .i64 (max (fin s p) (fin s q)), .bool true]) := fun ww => tLines_any s p q p q ww hs rfl rfl hp hq
  generalize min (beg s p : Int) (beg s q) = X at *
  generalize max (fin s p : Int) (fin s q) = Y at *
  exact qt21
 ·subst h
  have HL : qH 182 #[.string s, .int .i64 p, .int .i64 p] (.agg #[.int .i64 (min (beg s p) (beg s p)), .int .i64 (max (fin s p) (fin s p)), .bool true]) := fun ww => tLines_any s p p p p ww hs rfl rfl hp hp
  generalize min (beg s p : Int) (beg s p) = X at *
  generalize max (fin s p : Int) (fin s p) = Y at *
  exact qt21
 ·have HL : qH 182 #[.string s, .int .i64 q, .int .i64 p] (.agg #[.int .i64 (min (beg s p) (beg s q)), .int .i64 (max (fin s p) (fin s q)), .bool true]) := by
   intro ww
   rw [Int.min_comm, Int.max_comm]
   exact tLines_any s q p q p ww hs rfl rfl hq hp
  generalize min (beg s p : Int) (beg s q) = X at *
  generalize max (fin s p : Int) (fin s q) = Y at *
  exact qt21
