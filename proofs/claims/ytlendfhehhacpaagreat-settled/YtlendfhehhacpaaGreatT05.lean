/- A part. -/
import Derived.Test.YtlendfhehhacpaaGreatT03
import Derived.Test.YtlendfhehhacpaaGreatT02
set_option linter.unusedVariables false
set_option linter.unusedSimpArgs false
set_option maxRecDepth 100000
set_option maxHeartbeats 8000000
namespace Go.Proofs.YtlendfhehhacpaaGreat
open Go.RowKit Nib Tryz
theorem qt22 {P : Prop} (h : P := by
  go_enter func268, ntmps268
  go_wp2
  go_loop [5] (fun i => ∃ k : Nat, k ≤ s.size ∧ i = .int .i64 ((k : Int) - 1) ∧ Hid (Nib.dn (fun i => bt s i != c) k = Nib.dn (fun i => bt s i != c) s.size)) (fun i => (intOf i + 1).toNat)
  case atStart => exact ⟨s.size, Nat.le_refl _, by go_num, rfl⟩
  case round =>
   obtain ⟨k, hk, rfl, hb⟩ := hrel
   cases k with
   | zero =>
    go_wp2
    go_ret
    exact ⟨ret_int (by rw [← hb.out]; rfl), rfl⟩
   | succ k =>
    have hlt : k < s.size := by omega
    have e1 : ((k + 1 : Nat) : Int) - 1 = (k : Int) := by omega
    by_cases hc : bt s k = c
    ·have hc' : (((s[k]'hlt).toNat : Int) == c) = true := by rw [bt_in hlt] at hc; simp [hc]
     have hd : Nib.dn (fun i => bt s i != c) (k + 1) = k + 1 := dn_stop (by simp [hc])
     have H := hb.out; rw [hd] at H; clear hb hd hc
     have HH : Hid (k + 1 = Nib.dn (fun i => bt s i != c) s.size) := H
     clear H
     rw [e1]
     go_wp2
     go_ret
     exact ⟨ret_int (by rw [← HH.out]; omega), rfl⟩
    ·have hc' : (((s[k]'hlt).toNat : Int) == c) = false := by rw [bt_in hlt] at hc; simp [hc]
     have hd : Nib.dn (fun i => bt s i != c) (k + 1) = Nib.dn (fun i => bt s i != c) k := dn_step (by simp [hc])
     have H := hb.out; rw [hd] at H; clear hb hd hc
     have HH : Hid (Nib.dn (fun i => bt s i != c) k = Nib.dn (fun i => bt s i != c) s.size) := H
     clear H
     rw [e1]
     go_wp2
     go_round
     case rel => exact ⟨k, by omega, by go_num, HH⟩
     case measure => simp [intOf]
 ) : P := h
theorem lastIB_any (s : ByteArray) (c : Int) (w : World) (hs : s.size ≤ 1000) :
  Calls Tryz.prog 268 #[.string s, .int .u8 c] w fun e w' => e = .returned (.int .i64 (((Nib.dn (fun i => bt s i != c) s.size : Nat) : Int) - 1)) ∧ w' = w := by
 exact qt22
theorem lastIndexByte_any (s : ByteArray) (c : Int) (w : World) (hs : s.size ≤ 1000) :
  Calls Tryz.prog 228 #[.string s, .int .u8 c] w fun e w' => e = .returned (.int .i64 (((Nib.dn (fun i => bt s i != c) s.size : Nat) : Int) - 1)) ∧ w' = w := by
 go_enter func228, ntmps228
 go_wp2_with fail
 refine (lastIB_any s c w hs).mono ?_
 rintro e w' ⟨rfl, rfl⟩
 go_wp2
 go_ret
 exact ⟨rfl, rfl⟩
theorem indexIB_any (s : ByteArray) (c : Int) (w : World) :
  (callFunc 289 #[.string s, .int .u8 c]).run Tryz.prog w = .ok (.value (.int .i64 (firstIdx s c.toNat.toUInt8))) w := by
 rw [run_callFunc_extern func289 qk qk qk (e := Extern.BytealgIndexByte.indexByte) qk, run_indexByte_string]
 rfl
theorem indexByte_any (s : ByteArray) (c : Int) (w : World) :
  Calls Tryz.prog 229 #[.string s, .int .u8 c] w fun e w' => e = .returned (.int .i64 (firstIdx s c.toNat.toUInt8)) ∧ w' = w := by
 have h := indexIB_any s c w
 go_enter func229, ntmps229
 go_wp2
 go_ret
 exact ⟨rfl, rfl⟩
theorem qt51 {P : Prop} (h : P := by
  rintro e w' ⟨rfl, rfl⟩
  rw [HB.out]
  go_wp2_with fail
  refine (indexByte_any (s.extract k s.size) 10 _).mono ?_
  rintro e w' ⟨rfl, rfl⟩
  rw [HF.out]
  by_cases hl : F < s.size
  ·rw [if_pos hl]
   go_wp2
   refine bodyPost_ret (v := .agg #[.int .i64 B, .int .i64 (k + (F - k))]) (by simp [results, results195, go_sem]) rfl ⟨by rw [show (k : Int) + (F - k) = F by omega], ?_⟩
   exact qB
  ·rw [if_neg hl]
   go_wp2
   refine bodyPost_ret (v := .agg #[.int .i64 B, .int .i64 s.size]) (by simp [results, results195, go_sem]) rfl ⟨by rw [HE hl], ?_⟩
   exact qB
 ) : P := h
theorem tLine_any (s : ByteArray) (p : Int) (k : Nat) (w : World) (hs : s.size ≤ 1000) (e : p = k) (hk : k ≤ s.size) :
  qC 195 #[.string s, .int .i64 p] w (.agg #[.int .i64 (beg s k), .int .i64 (fin s k)]) := by
 subst e
 have h1 : (s.extract 0 k).size = k := by rw [ByteArray.size_extract]; omega
 have h2 : (s.extract k s.size).size = s.size - k := by rw [ByteArray.size_extract]; omega
 have HB : Hid (((Nib.dn (fun i => bt (s.extract 0 k) i != 10) (s.extract 0 k).size : Nat) : Int) = beg s k) := by rw [Hid, h1, dn_cut hk]
 have HF : Hid (firstIdx (s.extract k s.size) (10 : Int).toNat.toUInt8 = if fin s k < s.size then ((fin s k : Nat) : Int) - k else -1) := by
  have := fin_ge s k
  rw [Hid, first_up _ 10 qo qo, h2, up_cut hk]
  by_cases h : fin s k < s.size
  ·rw [if_pos h, if_pos qo]; omega
  ·rw [if_neg h, if_neg qo]
 have hbl := beg_le s k
 have hfl := fin_le hk
 have hfg := fin_ge s k
 have HE : ¬ fin s k < s.size → fin s k = s.size := by omega
 generalize beg s k = B at *
 generalize fin s k = F at *
 go_enter func195, ntmps195
 go_wp2_with fail
 refine (lastIndexByte_any (s.extract 0 k) 10 _ qo).mono ?_
 exact qt51
theorem qt77 {P : Prop} (h : P := by
  go_enter func202, ntmps202
  go_wp2
  ·refine bodyPost_ret (v := .int .i64 (b - 1)) (by simp [results, results202, go_sem]) rfl ⟨ret_int qo, ?_⟩
   exact qB
  ·refine bodyPost_ret (v := .int .i64 a) (by simp [results, results202, go_sem]) rfl ⟨ret_int qo, ?_⟩
   exact qB
 ) : P := h
theorem tLast_any (a b : Int) (w : World) (h : -5000 ≤ b ∧ b ≤ 5000) :
  qC 202 #[.agg #[.int .i64 (a), .int .i64 (b)]] w (.int .i64 (max a (b - 1))) := by
 exact qt77
theorem tColumn_any (a b c : Int) (w : World) (h : -5000 ≤ b ∧ b ≤ 5000) (h2 : -5000 ≤ a + c ∧ a + c ≤ 5000) :
  qC 245 #[.agg #[.int .i64 (a), .int .i64 (b)], .int .i64 c] w (.int .i64 (min (a + c) (max a (b - 1)))) := by
 have HM : Hid (min (a + c) (max a (b - 1)) = if a + c < max a (b - 1) then a + c else max a (b - 1)) := by rw [Hid]; omega
 generalize min (a + c) (max a (b - 1)) = y at *
 generalize hm : max a (b - 1) = m at *
 have HL : qH 202 #[.agg #[.int .i64 (a), .int .i64 (b)]] (.int .i64 m) := by
  intro ww; rw [← hm]; exact tLast_any a b ww h
 clear hm
 have hw : IntKind.i64.wrap (a + c) = a + c := by rw [IntKind.wrap_i64]; omega
 go_enter func245, ntmps245
 go_wp2_with fail
 go_region_held3 (fun ww => ww.cell? ⟨w.heap.size, 0, none⟩ = some (.int .i64 a) ∧ ww.cell? ⟨w.heap.size, 1, none⟩ = some (.int .i64 b)) ((refine ⟨?_, ?_⟩ <;> go_simp)) ((go_at_call 202; refine (HL.out _).mono ?_; rintro r1 w1 ⟨rfl, h1⟩; obtain ⟨hc1, hf1, hz1⟩ := qb h1; (try simp at hz1); (try have ⟨hl1_0, hk1_0⟩ := qL w.heap.size w1.heap.size)))
 go_wp2
 ·refine bodyPost_ret (v := .int .i64 m) (by simp [results, results245, go_sem]) rfl ⟨ret_int (by rw [HM.out, if_neg qo]), ?_⟩
  exact qB
 ·refine bodyPost_ret (v := .int .i64 (a + c)) (by simp [results, results245, go_sem]) rfl ⟨ret_int (by rw [HM.out]; split <;> omega), ?_⟩
  exact qB
theorem tIsEmpty_any (a b : Int) (w : World) :
  qC 185 #[.agg #[.int .i64 (a), .int .i64 (b)]] w (.bool (a == b)) := by
 go_enter func185, ntmps185
 go_wp2
 refine bodyPost_ret (v := .bool (a == b)) (by simp [results, results185, go_sem]) rfl ⟨rfl, ?_⟩
 exact qB
theorem tJoin_any (a b c d : Int) (w : World) :
  qC 196 #[.agg #[.int .i64 (a), .int .i64 (b)], .agg #[.int .i64 (c), .int .i64 (d)]] w (.agg #[.int .i64 (min a c), .int .i64 (max b d)]) := by
 have e1 : min a c = if c < a then c else a := by omega
 have e2 : max b d = if b < d then d else b := by omega
 rw [e1, e2]
 clear e1 e2
 by_cases h1 : c < a <;> by_cases h2 : b < d <;> simp only [h1, h2, if_true, if_false]
 ·go_enter func196, ntmps196
  go_wp2
  refine bodyPost_ret (v := .agg #[.int .i64 (c), .int .i64 (d)]) (by simp [results, results196, go_sem]) rfl ⟨rfl, ?_⟩
  exact qB
 ·go_enter func196, ntmps196
  go_wp2
  refine bodyPost_ret (v := .agg #[.int .i64 (c), .int .i64 (b)]) (by simp [results, results196, go_sem]) rfl ⟨rfl, ?_⟩
  exact qB
 ·go_enter func196, ntmps196
  go_wp2
  refine bodyPost_ret (v := .agg #[.int .i64 (a), .int .i64 (d)]) (by simp [results, results196, go_sem]) rfl ⟨rfl, ?_⟩
  exact qB
 ·go_enter func196, ntmps196
  go_wp2
  refine bodyPost_ret (v := .agg #[.int .i64 (a), .int .i64 (b)]) (by simp [results, results196, go_sem]) rfl ⟨rfl, ?_⟩
  exact qB
theorem tIsWord_any (c : Int) (w : World) :
  Calls Tryz.prog 266 #[.int .u8 c] w fun e w' => e = .returned (.bool (decide (128 ≤ c ∨ c = 95 ∨ (48 ≤ c ∧ c ≤ 57) ∨ (65 ≤ c ∧ c ≤ 90) ∨ (97 ≤ c ∧ c ≤ 122)))) ∧ w' = w := by
 go_enter func266, ntmps266
 go_wp2
 all_goals
  go_ret
  exact ⟨ret_bool (by first | (rw [Bool.eq_iff_iff]; done) | (rw [Bool.eq_iff_iff]; simp; done) | (rw [Bool.eq_iff_iff]; simp; omega)), rfl⟩
theorem tClass_any (c : Int) (g : Bool) (w : World) :
  Calls Tryz.prog 225 #[.int .u8 c, .bool g] w fun e w' => e = .returned (.int .i64 (cls c g)) ∧ w' = w := by
 generalize hx : cls c g = x
 have HX : Hid (x = if blk c = true then 0 else if c = 10 then 1 else if g = true ∨ 128 ≤ c ∨ c = 95 ∨ (48 ≤ c ∧ c ≤ 57) ∨ (65 ≤ c ∧ c ≤ 90) ∨ (97 ≤ c ∧ c ≤ 122) then 2 else 3) := hx.symm
 clear hx
 by_cases h32 : c = 32
 ·have HY : Hid (x = 0) := by rw [Hid, HX.out, if_pos (by simp [blk, h32])]
  clear HX
  go_enter func225, ntmps225
  go_wp2
  go_ret
  exact ⟨ret_int (by rw [HY.out]), rfl⟩
 by_cases h9 : c = 9
 ·have HY : Hid (x = 0) := by rw [Hid, HX.out, if_pos (by simp [blk, h9])]
  clear HX
  go_enter func225, ntmps225
  go_wp2
  go_ret
  exact ⟨ret_int (by rw [HY.out]), rfl⟩
 by_cases h10 : c = 10
 ·have HY : Hid (x = 1) := by rw [Hid, HX.out, if_neg (by simp [blk, h32, h9]), if_pos h10]
  clear HX
  subst h10
  go_enter func225, ntmps225
  go_wp2
  go_ret
  exact ⟨ret_int (by rw [HY.out]), rfl⟩
 have HY : Hid (x = if g = true ∨ 128 ≤ c ∨ c = 95 ∨ (48 ≤ c ∧ c ≤ 57) ∨ (65 ≤ c ∧ c ≤ 90) ∨ (97 ≤ c ∧ c ≤ 122) then 2 else 3) := by rw [Hid, HX.out, if_neg (by simp [blk, h32, h9]), if_neg h10]
 clear HX
 have b32 : (c == 32) = false := by simp [h32]
 have b9 : (c == 9) = false := by simp [h9]
 have b10 : (c == 10) = false := by simp [h10]
 cases g with
 | true =>
  have HZ : Hid (x = 2) := by rw [Hid, HY.out]; simp
  clear HY
  go_enter func225, ntmps225
  go_wp2
  go_ret
  exact ⟨ret_int (by rw [HZ.out]), rfl⟩
 | false =>
  by_cases hq : (128 ≤ c ∨ c = 95 ∨ (48 ≤ c ∧ c ≤ 57) ∨ (65 ≤ c ∧ c ≤ 90) ∨ (97 ≤ c ∧ c ≤ 122))
  ·have HZ : Hid (x = 2) := by rw [Hid, HY.out, if_pos (Or.inr hq)]
   have HW : Hid (decide (128 ≤ c ∨ c = 95 ∨ (48 ≤ c ∧ c ≤ 57) ∨ (65 ≤ c ∧ c ≤ 90) ∨ (97 ≤ c ∧ c ≤ 122)) = true) := by rw [Hid]; exact decide_eq_true hq
   clear HY hq
   go_enter func225, ntmps225
   go_wp2_with fail
   refine (tIsWord_any c _).mono ?_
   rintro e w' ⟨rfl, rfl⟩
   rw [HW.out]
   go_wp2
   go_ret
   exact ⟨ret_int (by rw [HZ.out]), rfl⟩
  ·have HZ : Hid (x = 3) := by rw [Hid, HY.out, if_neg (by simp only [Bool.false_eq_true, false_or]; exact hq)]
   have HW : Hid (decide (128 ≤ c ∨ c = 95 ∨ (48 ≤ c ∧ c ≤ 57) ∨ (65 ≤ c ∧ c ≤ 90) ∨ (97 ≤ c ∧ c ≤ 122)) = false) := by rw [Hid]; exact decide_eq_false hq
   clear HY hq
   go_enter func225, ntmps225
   go_wp2_with fail
   refine (tIsWord_any c _).mono ?_
   rintro e w' ⟨rfl, rfl⟩
   rw [HW.out]
   go_wp2
   go_ret
   exact ⟨ret_int (by rw [HZ.out]), rfl⟩
theorem qt67 {P : Prop} (h : P := by
  generalize att s m = D at *
  go_enter func223, ntmps223
  go_wp2_with fail
  refine (HL.out _).mono ?_
  rintro e w1 ⟨rfl, h1⟩
  obtain ⟨hc1, hf1, hz1⟩ := qb h1
  try simp at hz1
  go_wp2
  refine bodyPost_ret (v := .tuple #[.agg #[.int .i64 (A), .int .i64 (B)], .bool true]) (by simp [results, results223, go_sem, hc1]) rfl ⟨rfl, ?_⟩
  exact qB
 ) : P := h
theorem tBeside_down (s : ByteArray) (a b d : Int) (m : Nat) (w : World) (hs : s.size ≤ 1000) (ea : a = att s m) (eb : b = fin s (att s m)) (ed : d = 1) (h : m + 1 < lns s) :
  qC 223 #[.string s, .agg #[.int .i64 (a), .int .i64 (b)], .int .i64 d] w (.tuple #[.agg #[.int .i64 (att s (m + 1)), .int .i64 (fin s (att s (m + 1)))], .bool true]) := by
 subst ea eb ed
 have h1 := fin_lt_of h
 have h2 := line_down h
 have HL : qH 195 #[.string s, .int .i64 (((fin s (att s m) : Nat) : Int) + 1)] (.agg #[.int .i64 (att s (m + 1)), .int .i64 (fin s (att s (m + 1)))]) := by
  intro ww
  have := tLine_any s (((fin s (att s m) : Nat) : Int) + 1) (fin s (att s m) + 1) ww hs qo qo
  rw [h2.1, h2.2] at this
  exact this
 clear h2
 generalize att s (m + 1) = A at *
 generalize fin s A = B at *
 generalize fin s (att s m) = F at *
 exact qt67
theorem tBeside_up (s : ByteArray) (a b d : Int) (m : Nat) (w : World) (hs : s.size ≤ 1000) (ea : a = att s m) (hm : m < lns s) (ed : d = -1) (h : 0 < m) :
  qC 223 #[.string s, .agg #[.int .i64 (a), .int .i64 (b)], .int .i64 d] w (.tuple #[.agg #[.int .i64 (att s (m - 1)), .int .i64 (fin s (att s (m - 1)))], .bool true]) := by
 subst ea ed
 have h1 := att_pos (s := s) h
 have h3 := (att_in hm).1
 have h2 := line_up hm h
 have HL : qH 195 #[.string s, .int .i64 (((att s m : Nat) : Int) - 1)] (.agg #[.int .i64 (att s (m - 1)), .int .i64 (fin s (att s (m - 1)))]) := by
  intro ww
  have := tLine_any s (((att s m : Nat) : Int) - 1) (att s m - 1) ww hs qo qo
  rw [h2.1, h2.2] at this
  exact this
 clear h2
 generalize att s (m - 1) = A at *
 generalize fin s A = B at *
 exact qt67
theorem tBeside_none (s : ByteArray) (a b d : Int) (w : World) (hs : s.size ≤ 1000) (ed : d = 1 ∨ d = -1) (h1 : d = 1 → b = s.size) (h2 : d = -1 → a = 0) :
  qC 223 #[.string s, .agg #[.int .i64 (a), .int .i64 (b)], .int .i64 d] w (.tuple #[.agg #[.int .i64 (0), .int .i64 (0)], .bool false]) := by
 rcases ed with rfl | rfl
 ·have h3 := h1 rfl
  subst h3
  clear h1 h2
  go_enter func223, ntmps223
  go_wp2
  refine bodyPost_ret (v := .tuple #[.agg #[.int .i64 (0), .int .i64 (0)], .bool false]) (by simp [results, results223, go_sem]) rfl ⟨rfl, ?_⟩
  exact qB
 ·have h3 := h2 rfl
  subst h3
  clear h1 h2
  go_enter func223, ntmps223
  go_wp2
  refine bodyPost_ret (v := .tuple #[.agg #[.int .i64 (0), .int .i64 (0)], .bool false]) (by simp [results, results223, go_sem]) rfl ⟨rfl, ?_⟩
  exact qB
