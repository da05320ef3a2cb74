/- Joined of the texts WalkA, TextA, TextB, TextC, ModesC. -/
import Derived.Test.YtlendfhehhacpaaGreatP04
import Derived.Test.YtlendfhehhacpaaGreatP01
import Derived.Test.YtlendfhehhacpaaGreatP02
import Derived.Deep.RegionHeld3
import Derived.Test.YtlendfhehhacpaaGreatP05
set_option linter.unusedVariables false
set_option linter.unusedSimpArgs false
set_option maxRecDepth 100000
set_option maxHeartbeats 8000000
namespace Go.Proofs.YtlendfhehhacpaaGreat
open Go.RowKit
theorem lastIB_any (s : ByteArray) (c : Int) (w : World) (hs : s.size ≤ 1000) :
    Calls Tryz.prog 268 #[.string s, .int .u8 c] w fun e w' => e = .returned (.int .i64 (((Nib.dn (fun i => Nib.bt s i != c) s.size : Nat) : Int) - 1)) ∧ w' = w := by
  go_enter Tryz.func268, Tryz.ntmps268
  go_wp2
  go_loop [5] (fun i => ∃ k : Nat, k ≤ s.size ∧ i = .int .i64 ((k : Int) - 1) ∧ Hid (Nib.dn (fun i => Nib.bt s i != c) k = Nib.dn (fun i => Nib.bt s i != c) s.size)) (fun i => (intOf i + 1).toNat)
  case atStart => exact ⟨s.size, Nat.le_refl _, by go_num, rfl⟩
  case round =>
    obtain ⟨k, hk, rfl, hb⟩ := hrel
    cases k with
    | zero =>
      go_wp2
      go_ret
      exact ⟨ret_int (by rw [← hb.out]; rfl), rfl⟩
    | succ k =>
      have hlt : k < s.size := by omega
      have e1 : ((k + 1 : Nat) : Int) - 1 = (k : Int) := by omega
      by_cases hc : Nib.bt s k = c
      · have hc' : (((s[k]'hlt).toNat : Int) == c) = true := by rw [Nib.bt_in hlt] at hc; simp [hc]
        have hd : Nib.dn (fun i => Nib.bt s i != c) (k + 1) = k + 1 := Nib.dn_stop (by simp [hc])
        have H := hb.out; rw [hd] at H; clear hb hd hc
        have HH : Hid (k + 1 = Nib.dn (fun i => Nib.bt s i != c) s.size) := H
        clear H
        rw [e1]
        go_wp2
        go_ret
        exact ⟨ret_int (by rw [← HH.out]; omega), rfl⟩
      · have hc' : (((s[k]'hlt).toNat : Int) == c) = false := by rw [Nib.bt_in hlt] at hc; simp [hc]
        have hd : Nib.dn (fun i => Nib.bt s i != c) (k + 1) = Nib.dn (fun i => Nib.bt s i != c) k := Nib.dn_step (by simp [hc])
        have H := hb.out; rw [hd] at H; clear hb hd hc
        have HH : Hid (Nib.dn (fun i => Nib.bt s i != c) k = Nib.dn (fun i => Nib.bt s i != c) s.size) := H
        clear H
        rw [e1]
        go_wp2
        go_round
        case rel => exact ⟨k, by omega, by go_num, HH⟩
        case measure => simp [intOf]
theorem lastIndexByte_any (s : ByteArray) (c : Int) (w : World) (hs : s.size ≤ 1000) :
    Calls Tryz.prog 228 #[.string s, .int .u8 c] w fun e w' => e = .returned (.int .i64 (((Nib.dn (fun i => Nib.bt s i != c) s.size : Nat) : Int) - 1)) ∧ w' = w := by
  go_enter Tryz.func228, Tryz.ntmps228
  go_wp2_with fail
  refine (lastIB_any s c w hs).mono ?_
  rintro e w' ⟨rfl, rfl⟩
  go_wp2
  go_ret
  exact ⟨rfl, rfl⟩
theorem indexIB_any (s : ByteArray) (c : Int) (w : World) :
    (callFunc 289 #[.string s, .int .u8 c]).run Tryz.prog w = .ok (.value (.int .i64 (firstIdx s c.toNat.toUInt8))) w := by
  rw [run_callFunc_extern Tryz.func289 (by kernel_rfl) (by kernel_rfl) (by kernel_rfl) (e := Extern.BytealgIndexByte.indexByte) (by kernel_rfl), run_indexByte_string]
  rfl
theorem indexByte_any (s : ByteArray) (c : Int) (w : World) :
    Calls Tryz.prog 229 #[.string s, .int .u8 c] w fun e w' => e = .returned (.int .i64 (firstIdx s c.toNat.toUInt8)) ∧ w' = w := by
  have h := indexIB_any s c w
  go_enter Tryz.func229, Tryz.ntmps229
  go_wp2
  go_ret
  exact ⟨rfl, rfl⟩
theorem tLine_any (s : ByteArray) (p : Int) (k : Nat) (w : World) (hs : s.size ≤ 1000) (e : p = k) (hk : k ≤ s.size) :
    Calls Tryz.prog 195 #[.string s, .int .i64 p] w fun e w' => e = .returned (.agg #[.int .i64 (Nib.beg s k), .int .i64 (Nib.fin s k)]) ∧ Below w.heap.size w w' := by
  subst e
  have h1 : (s.extract 0 k).size = k := by rw [ByteArray.size_extract]; omega
  have h2 : (s.extract k s.size).size = s.size - k := by rw [ByteArray.size_extract]; omega
  have HB : Hid (((Nib.dn (fun i => Nib.bt (s.extract 0 k) i != 10) (s.extract 0 k).size : Nat) : Int) = Nib.beg s k) := by rw [Hid, h1, Nib.dn_cut hk]
  have HF : Hid (firstIdx (s.extract k s.size) (10 : Int).toNat.toUInt8 = if Nib.fin s k < s.size then ((Nib.fin s k : Nat) : Int) - k else -1) := by
    have := Nib.fin_ge s k
    rw [Hid, Nib.first_up _ 10 (by omega) (by omega), h2, Nib.up_cut hk]
    by_cases h : Nib.fin s k < s.size
    · rw [if_pos h, if_pos (by omega)]; omega
    · rw [if_neg h, if_neg (by omega)]
  have hbl := Nib.beg_le s k
  have hfl := Nib.fin_le hk
  have hfg := Nib.fin_ge s k
  have HE : ¬ Nib.fin s k < s.size → Nib.fin s k = s.size := by omega
  generalize Nib.beg s k = B at *
  generalize Nib.fin s k = F at *
  go_enter Tryz.func195, Tryz.ntmps195
  go_wp2_with fail
  refine (lastIndexByte_any (s.extract 0 k) 10 _ (by omega)).mono ?_
  rintro e w' ⟨rfl, rfl⟩
  rw [HB.out]
  go_wp2_with fail
  refine (indexByte_any (s.extract k s.size) 10 _).mono ?_
  rintro e w' ⟨rfl, rfl⟩
  rw [HF.out]
  by_cases hl : F < s.size
  · rw [if_pos hl]
    go_wp2
    refine bodyPost_ret (v := .agg #[.int .i64 B, .int .i64 (k + (F - k))]) (by simp [results, Tryz.results195, go_sem]) rfl ⟨by rw [show (k : Int) + (F - k) = F by omega], ?_⟩
    repeat (with_reducible first | exact Below.refl _ _ | refine b_s ?_ _ | refine b_a ?_ _ | refine Below.drew ?_ | refine below_drewN ?_ _)
  · rw [if_neg hl]
    go_wp2
    refine bodyPost_ret (v := .agg #[.int .i64 B, .int .i64 s.size]) (by simp [results, Tryz.results195, go_sem]) rfl ⟨by rw [HE hl], ?_⟩
    repeat (with_reducible first | exact Below.refl _ _ | refine b_s ?_ _ | refine b_a ?_ _ | refine Below.drew ?_ | refine below_drewN ?_ _)
theorem tLast_any (a b : Int) (w : World) (h : -5000 ≤ b ∧ b ≤ 5000) :
    Calls Tryz.prog 202 #[.agg #[.int .i64 (a), .int .i64 (b)]] w fun e w' => e = .returned (.int .i64 (max a (b - 1))) ∧ Below w.heap.size w w' := by
  go_enter Tryz.func202, Tryz.ntmps202
  go_wp2
  · refine bodyPost_ret (v := .int .i64 (b - 1)) (by simp [results, Tryz.results202, go_sem]) rfl ⟨ret_int (by omega), ?_⟩
    repeat (with_reducible first | exact Below.refl _ _ | refine b_s ?_ _ | refine b_a ?_ _ | refine Below.drew ?_ | refine below_drewN ?_ _)
  · refine bodyPost_ret (v := .int .i64 a) (by simp [results, Tryz.results202, go_sem]) rfl ⟨ret_int (by omega), ?_⟩
    repeat (with_reducible first | exact Below.refl _ _ | refine b_s ?_ _ | refine b_a ?_ _ | refine Below.drew ?_ | refine below_drewN ?_ _)
theorem tColumn_any (a b c : Int) (w : World) (h : -5000 ≤ b ∧ b ≤ 5000) (h2 : -5000 ≤ a + c ∧ a + c ≤ 5000) :
    Calls Tryz.prog 245 #[.agg #[.int .i64 (a), .int .i64 (b)], .int .i64 c] w fun e w' => e = .returned (.int .i64 (min (a + c) (max a (b - 1)))) ∧ Below w.heap.size w w' := by
  have HM : Hid (min (a + c) (max a (b - 1)) = if a + c < max a (b - 1) then a + c else max a (b - 1)) := by rw [Hid]; omega
  generalize min (a + c) (max a (b - 1)) = y at *
  generalize hm : max a (b - 1) = m at *
  have HL : Hid (∀ ww, Calls Tryz.prog 202 #[.agg #[.int .i64 (a), .int .i64 (b)]] ww fun e w' => e = .returned (.int .i64 m) ∧ Below ww.heap.size ww w') := by
    intro ww; rw [← hm]; exact tLast_any a b ww h
  clear hm
  have hw : IntKind.i64.wrap (a + c) = a + c := by rw [IntKind.wrap_i64]; omega
  go_enter Tryz.func245, Tryz.ntmps245
  go_wp2_with fail
  go_region_held3 (fun ww => ww.cell? ⟨w.heap.size, 0, none⟩ = some (.int .i64 a) ∧ ww.cell? ⟨w.heap.size, 1, none⟩ = some (.int .i64 b)) ((refine ⟨?_, ?_⟩ <;> go_simp)) ((go_at_call 202; refine (HL.out _).mono ?_; rintro r1 w1 ⟨rfl, h1⟩; obtain ⟨hc1, hf1⟩ := bcell h1; have hz1 := h1.size; (try simp at hz1); (try have hl1_0 : w.heap.size < w1.heap.size := (by omega)); (try have hk1_0 : w.heap.size < w1.heap.size + 1 := (by omega))))
  go_wp2
  · refine bodyPost_ret (v := .int .i64 m) (by simp [results, Tryz.results245, go_sem]) rfl ⟨ret_int (by rw [HM.out, if_neg (by omega)]), ?_⟩
    repeat (with_reducible first | exact Below.refl _ _ | refine b_s ?_ _ | refine b_a ?_ _ | refine Below.drew ?_ | refine below_drewN ?_ _ | refine b_t ?_ h1)
  · refine bodyPost_ret (v := .int .i64 (a + c)) (by simp [results, Tryz.results245, go_sem]) rfl ⟨ret_int (by rw [HM.out]; split <;> omega), ?_⟩
    repeat (with_reducible first | exact Below.refl _ _ | refine b_s ?_ _ | refine b_a ?_ _ | refine Below.drew ?_ | refine below_drewN ?_ _ | refine b_t ?_ h1)
theorem tIsEmpty_any (a b : Int) (w : World) :
    Calls Tryz.prog 185 #[.agg #[.int .i64 (a), .int .i64 (b)]] w fun e w' => e = .returned (.bool (a == b)) ∧ Below w.heap.size w w' := by
  go_enter Tryz.func185, Tryz.ntmps185
  go_wp2
  refine bodyPost_ret (v := .bool (a == b)) (by simp [results, Tryz.results185, go_sem]) rfl ⟨rfl, ?_⟩
  repeat (with_reducible first | exact Below.refl _ _ | refine b_s ?_ _ | refine b_a ?_ _ | refine Below.drew ?_ | refine below_drewN ?_ _)
theorem tJoin_any (a b c d : Int) (w : World) :
    Calls Tryz.prog 196 #[.agg #[.int .i64 (a), .int .i64 (b)], .agg #[.int .i64 (c), .int .i64 (d)]] w fun e w' => e = .returned (.agg #[.int .i64 (min a c), .int .i64 (max b d)]) ∧ Below w.heap.size w w' := by
  have e1 : min a c = if c < a then c else a := by omega
  have e2 : max b d = if b < d then d else b := by omega
  rw [e1, e2]
  clear e1 e2
  by_cases h1 : c < a <;> by_cases h2 : b < d <;> simp only [h1, h2, if_true, if_false]
  · go_enter Tryz.func196, Tryz.ntmps196
    go_wp2
    refine bodyPost_ret (v := .agg #[.int .i64 (c), .int .i64 (d)]) (by simp [results, Tryz.results196, go_sem]) rfl ⟨rfl, ?_⟩
    repeat (with_reducible first | exact Below.refl _ _ | refine b_s ?_ _ | refine b_a ?_ _ | refine Below.drew ?_ | refine below_drewN ?_ _)
  · go_enter Tryz.func196, Tryz.ntmps196
    go_wp2
    refine bodyPost_ret (v := .agg #[.int .i64 (c), .int .i64 (b)]) (by simp [results, Tryz.results196, go_sem]) rfl ⟨rfl, ?_⟩
    repeat (with_reducible first | exact Below.refl _ _ | refine b_s ?_ _ | refine b_a ?_ _ | refine Below.drew ?_ | refine below_drewN ?_ _)
  · go_enter Tryz.func196, Tryz.ntmps196
    go_wp2
    refine bodyPost_ret (v := .agg #[.int .i64 (a), .int .i64 (d)]) (by simp [results, Tryz.results196, go_sem]) rfl ⟨rfl, ?_⟩
    repeat (with_reducible first | exact Below.refl _ _ | refine b_s ?_ _ | refine b_a ?_ _ | refine Below.drew ?_ | refine below_drewN ?_ _)
  · go_enter Tryz.func196, Tryz.ntmps196
    go_wp2
    refine bodyPost_ret (v := .agg #[.int .i64 (a), .int .i64 (b)]) (by simp [results, Tryz.results196, go_sem]) rfl ⟨rfl, ?_⟩
    repeat (with_reducible first | exact Below.refl _ _ | refine b_s ?_ _ | refine b_a ?_ _ | refine Below.drew ?_ | refine below_drewN ?_ _)
theorem tIsWord_any (c : Int) (w : World) :
    Calls Tryz.prog 266 #[.int .u8 c] w fun e w' => e = .returned (.bool (decide (128 ≤ c ∨ c = 95 ∨ (48 ≤ c ∧ c ≤ 57) ∨ (65 ≤ c ∧ c ≤ 90) ∨ (97 ≤ c ∧ c ≤ 122)))) ∧ w' = w := by
  go_enter Tryz.func266, Tryz.ntmps266
  go_wp2
  all_goals
    go_ret
    exact ⟨ret_bool (by first | (rw [Bool.eq_iff_iff]; done) | (rw [Bool.eq_iff_iff]; simp; done) | (rw [Bool.eq_iff_iff]; simp; omega)), rfl⟩
theorem tClass_any (c : Int) (g : Bool) (w : World) :
    Calls Tryz.prog 225 #[.int .u8 c, .bool g] w fun e w' => e = .returned (.int .i64 (Nib.cls c g)) ∧ w' = w := by
  generalize hx : Nib.cls c g = x
  have HX : Hid (x = if Nib.blk c = true then 0 else if c = 10 then 1 else if g = true ∨ 128 ≤ c ∨ c = 95 ∨ (48 ≤ c ∧ c ≤ 57) ∨ (65 ≤ c ∧ c ≤ 90) ∨ (97 ≤ c ∧ c ≤ 122) then 2 else 3) := hx.symm
  clear hx
  by_cases h32 : c = 32
  · have HY : Hid (x = 0) := by rw [Hid, HX.out, if_pos (by simp [Nib.blk, h32])]
    clear HX
    go_enter Tryz.func225, Tryz.ntmps225
    go_wp2
    go_ret
    exact ⟨ret_int (by rw [HY.out]), rfl⟩
  by_cases h9 : c = 9
  · have HY : Hid (x = 0) := by rw [Hid, HX.out, if_pos (by simp [Nib.blk, h9])]
    clear HX
    go_enter Tryz.func225, Tryz.ntmps225
    go_wp2
    go_ret
    exact ⟨ret_int (by rw [HY.out]), rfl⟩
  by_cases h10 : c = 10
  · have HY : Hid (x = 1) := by rw [Hid, HX.out, if_neg (by simp [Nib.blk, h32, h9]), if_pos h10]
    clear HX
    subst h10
    go_enter Tryz.func225, Tryz.ntmps225
    go_wp2
    go_ret
    exact ⟨ret_int (by rw [HY.out]), rfl⟩
  have HY : Hid (x = if g = true ∨ 128 ≤ c ∨ c = 95 ∨ (48 ≤ c ∧ c ≤ 57) ∨ (65 ≤ c ∧ c ≤ 90) ∨ (97 ≤ c ∧ c ≤ 122) then 2 else 3) := by rw [Hid, HX.out, if_neg (by simp [Nib.blk, h32, h9]), if_neg h10]
  clear HX
  have b32 : (c == 32) = false := by simp [h32]
  have b9 : (c == 9) = false := by simp [h9]
  have b10 : (c == 10) = false := by simp [h10]
  cases g with
  | true =>
    have HZ : Hid (x = 2) := by rw [Hid, HY.out]; simp
    clear HY
    go_enter Tryz.func225, Tryz.ntmps225
    go_wp2
    go_ret
    exact ⟨ret_int (by rw [HZ.out]), rfl⟩
  | false =>
    by_cases hq : (128 ≤ c ∨ c = 95 ∨ (48 ≤ c ∧ c ≤ 57) ∨ (65 ≤ c ∧ c ≤ 90) ∨ (97 ≤ c ∧ c ≤ 122))
    · have HZ : Hid (x = 2) := by rw [Hid, HY.out, if_pos (Or.inr hq)]
      have HW : Hid (decide (128 ≤ c ∨ c = 95 ∨ (48 ≤ c ∧ c ≤ 57) ∨ (65 ≤ c ∧ c ≤ 90) ∨ (97 ≤ c ∧ c ≤ 122)) = true) := by rw [Hid]; exact decide_eq_true hq
      clear HY hq
      go_enter Tryz.func225, Tryz.ntmps225
      go_wp2_with fail
      refine (tIsWord_any c _).mono ?_
      rintro e w' ⟨rfl, rfl⟩
      rw [HW.out]
      go_wp2
      go_ret
      exact ⟨ret_int (by rw [HZ.out]), rfl⟩
    · have HZ : Hid (x = 3) := by rw [Hid, HY.out, if_neg (by simp only [Bool.false_eq_true, false_or]; exact hq)]
      have HW : Hid (decide (128 ≤ c ∨ c = 95 ∨ (48 ≤ c ∧ c ≤ 57) ∨ (65 ≤ c ∧ c ≤ 90) ∨ (97 ≤ c ∧ c ≤ 122)) = false) := by rw [Hid]; exact decide_eq_false hq
      clear HY hq
      go_enter Tryz.func225, Tryz.ntmps225
      go_wp2_with fail
      refine (tIsWord_any c _).mono ?_
      rintro e w' ⟨rfl, rfl⟩
      rw [HW.out]
      go_wp2
      go_ret
      exact ⟨ret_int (by rw [HZ.out]), rfl⟩
theorem tBeside_down (s : ByteArray) (a b d : Int) (m : Nat) (w : World) (hs : s.size ≤ 1000) (ea : a = Nib.att s m) (eb : b = Nib.fin s (Nib.att s m)) (ed : d = 1) (h : m + 1 < Nib.lns s) :
    Calls Tryz.prog 223 #[.string s, .agg #[.int .i64 (a), .int .i64 (b)], .int .i64 d] w fun e w' => e = .returned (.tuple #[.agg #[.int .i64 (Nib.att s (m + 1)), .int .i64 (Nib.fin s (Nib.att s (m + 1)))], .bool true]) ∧ Below w.heap.size w w' := by
  subst ea eb ed
  have h1 := Nib.fin_lt_of h
  have h2 := Nib.line_down h
  have HL : Hid (∀ ww, Calls Tryz.prog 195 #[.string s, .int .i64 (((Nib.fin s (Nib.att s m) : Nat) : Int) + 1)] ww fun e w' => e = .returned (.agg #[.int .i64 (Nib.att s (m + 1)), .int .i64 (Nib.fin s (Nib.att s (m + 1)))]) ∧ Below ww.heap.size ww w') := by
    intro ww
    have := tLine_any s (((Nib.fin s (Nib.att s m) : Nat) : Int) + 1) (Nib.fin s (Nib.att s m) + 1) ww hs (by omega) (by omega)
    rw [h2.1, h2.2] at this
    exact this
  clear h2
  generalize Nib.att s (m + 1) = A at *
  generalize Nib.fin s A = B at *
  generalize Nib.fin s (Nib.att s m) = F at *
  generalize Nib.att s m = D at *
  go_enter Tryz.func223, Tryz.ntmps223
  go_wp2_with fail
  refine (HL.out _).mono ?_
  rintro e w1 ⟨rfl, h1⟩
  obtain ⟨hc1, hf1⟩ := bcell h1
  have hz1 := h1.size
  try simp at hz1
  go_wp2
  refine bodyPost_ret (v := .tuple #[.agg #[.int .i64 (A), .int .i64 (B)], .bool true]) (by simp [results, Tryz.results223, go_sem, hc1]) rfl ⟨rfl, ?_⟩
  repeat (with_reducible first | exact Below.refl _ _ | refine b_s ?_ _ | refine b_a ?_ _ | refine Below.drew ?_ | refine below_drewN ?_ _ | refine b_t ?_ h1)
theorem tBeside_up (s : ByteArray) (a b d : Int) (m : Nat) (w : World) (hs : s.size ≤ 1000) (ea : a = Nib.att s m) (hm : m < Nib.lns s) (ed : d = -1) (h : 0 < m) :
    Calls Tryz.prog 223 #[.string s, .agg #[.int .i64 (a), .int .i64 (b)], .int .i64 d] w fun e w' => e = .returned (.tuple #[.agg #[.int .i64 (Nib.att s (m - 1)), .int .i64 (Nib.fin s (Nib.att s (m - 1)))], .bool true]) ∧ Below w.heap.size w w' := by
  subst ea ed
  have h1 := Nib.att_pos (s := s) h
  have h3 := (Nib.att_in hm).1
  have h2 := Nib.line_up hm h
  have HL : Hid (∀ ww, Calls Tryz.prog 195 #[.string s, .int .i64 (((Nib.att s m : Nat) : Int) - 1)] ww fun e w' => e = .returned (.agg #[.int .i64 (Nib.att s (m - 1)), .int .i64 (Nib.fin s (Nib.att s (m - 1)))]) ∧ Below ww.heap.size ww w') := by
    intro ww
    have := tLine_any s (((Nib.att s m : Nat) : Int) - 1) (Nib.att s m - 1) ww hs (by omega) (by omega)
    rw [h2.1, h2.2] at this
    exact this
  clear h2
  generalize Nib.att s (m - 1) = A at *
  generalize Nib.fin s A = B at *
  generalize Nib.att s m = D at *
  go_enter Tryz.func223, Tryz.ntmps223
  go_wp2_with fail
  refine (HL.out _).mono ?_
  rintro e w1 ⟨rfl, h1⟩
  obtain ⟨hc1, hf1⟩ := bcell h1
  have hz1 := h1.size
  try simp at hz1
  go_wp2
  refine bodyPost_ret (v := .tuple #[.agg #[.int .i64 (A), .int .i64 (B)], .bool true]) (by simp [results, Tryz.results223, go_sem, hc1]) rfl ⟨rfl, ?_⟩
  repeat (with_reducible first | exact Below.refl _ _ | refine b_s ?_ _ | refine b_a ?_ _ | refine Below.drew ?_ | refine below_drewN ?_ _ | refine b_t ?_ h1)
theorem tBeside_none (s : ByteArray) (a b d : Int) (w : World) (hs : s.size ≤ 1000) (ed : d = 1 ∨ d = -1) (h1 : d = 1 → b = s.size) (h2 : d = -1 → a = 0) :
    Calls Tryz.prog 223 #[.string s, .agg #[.int .i64 (a), .int .i64 (b)], .int .i64 d] w fun e w' => e = .returned (.tuple #[.agg #[.int .i64 (0), .int .i64 (0)], .bool false]) ∧ Below w.heap.size w w' := by
  rcases ed with rfl | rfl
  · have h3 := h1 rfl
    subst h3
    clear h1 h2
    go_enter Tryz.func223, Tryz.ntmps223
    go_wp2
    refine bodyPost_ret (v := .tuple #[.agg #[.int .i64 (0), .int .i64 (0)], .bool false]) (by simp [results, Tryz.results223, go_sem]) rfl ⟨rfl, ?_⟩
    repeat (with_reducible first | exact Below.refl _ _ | refine b_s ?_ _ | refine b_a ?_ _ | refine Below.drew ?_ | refine below_drewN ?_ _)
  · have h3 := h2 rfl
    subst h3
    clear h1 h2
    go_enter Tryz.func223, Tryz.ntmps223
    go_wp2
    refine bodyPost_ret (v := .tuple #[.agg #[.int .i64 (0), .int .i64 (0)], .bool false]) (by simp [results, Tryz.results223, go_sem]) rfl ⟨rfl, ?_⟩
    repeat (with_reducible first | exact Below.refl _ _ | refine b_s ?_ _ | refine b_a ?_ _ | refine Below.drew ?_ | refine below_drewN ?_ _)
theorem mToNormal (r d : Nat) (p : Pg) (w : World) (h : RdAt w r d p) :
    Calls Tryz.prog 136 #[.pointer (some ⟨d, 0, none⟩)] w fun e w' => e = .returned (.tuple #[]) ∧ RdAt w' r d { p with mode := 0, anchor := 0 } ∧ Upd [d] w w' := by
  have HF := (h.set_mode 0).set_anchor 0
  rw [show ((0 : Nat) : Int) = 0 from rfl] at HF
  obtain ⟨c0, c1, c2, c3, c4, c5, c6, c7, c8, c9, fz, lt⟩ := h.dk
  clear h c0 c1 c4 c5 c6 c7 c8 c9
  go_enter Tryz.func136, Tryz.ntmps136
  go_wp2
  go_end0
  refine ⟨rfl, ?_, ?_⟩
  · repeat (with_reducible first | exact HF | refine r_o ?_ _ | refine RdAt.alloc ?_ _ | refine RdAt.drewN ?_ _ | refine RdAt.drew ?_)
  · repeat (with_reducible first | exact Upd.refl _ _ | assumption | refine u_s ?_ _ | refine Upd.alloc ?_ _ | refine Upd.drewN ?_ _ | refine Upd.drew ?_)
theorem mMark (r d : Nat) (p : Pg) (mode : Int) (w : World) (h : RdAt w r d p) :
    Calls Tryz.prog 150 #[.pointer (some ⟨d, 0, none⟩), .int .i64 mode] w fun e w' => e = .returned (.tuple #[]) ∧ RdAt w' r d { p with mode := mode, anchor := p.pl } ∧ Upd [d] w w' := by
  have HF := (h.set_mode mode).set_anchor p.pl
  obtain ⟨c0, c1, c2, c3, c4, c5, c6, c7, c8, c9, fz, lt⟩ := h.dk
  clear h c0 c4 c5 c6 c7 c8 c9
  go_enter Tryz.func150, Tryz.ntmps150
  go_wp2
  go_end0
  refine ⟨rfl, ?_, ?_⟩
  · repeat (with_reducible first | exact HF | refine r_o ?_ _ | refine RdAt.alloc ?_ _ | refine RdAt.drewN ?_ _ | refine RdAt.drew ?_)
  · repeat (with_reducible first | exact Upd.refl _ _ | assumption | refine u_s ?_ _ | refine Upd.alloc ?_ _ | refine Upd.drewN ?_ _ | refine Upd.drew ?_)
theorem mMoveTo (r d : Nat) (p : Pg) (place : Int) (k : Nat) (w : World) (h : RdAt w r d p) (hs : p.t.size ≤ 1000) (e : place = k) (hk : k ≤ p.t.size) :
    Calls Tryz.prog 179 #[.pointer (some ⟨d, 0, none⟩), .int .i64 place] w fun e w' => e = .returned (.tuple #[]) ∧ RdAt w' r d { p with pl := Nib.clm p.t k } ∧ Upd [d] w w' := by
  subst e
  have HL : Hid (∀ ww, Calls Tryz.prog 195 #[.string p.t, .int .i64 k] ww fun e w' => e = .returned (.agg #[.int .i64 (Nib.beg p.t k), .int .i64 (Nib.fin p.t k)]) ∧ Below ww.heap.size ww w') := fun ww => tLine_any p.t k k ww hs rfl hk
  have hb1 := Nib.beg_le p.t k
  have hf1 := Nib.fin_le hk
  have HT : Hid (∀ ww, Calls Tryz.prog 202 #[.agg #[.int .i64 (Nib.beg p.t k), .int .i64 (Nib.fin p.t k)]] ww fun e w' => e = .returned (.int .i64 (Nib.lst p.t k)) ∧ Below ww.heap.size ww w') := by
    intro ww
    have := tLast_any (Nib.beg p.t k) (Nib.fin p.t k) ww (by omega)
    refine this.mono ?_
    rintro e w' ⟨rfl, hw⟩
    refine ⟨ret_int ?_, hw⟩
    unfold Nib.lst
    split <;> omega
  have H := h
  have HS : Hid (∀ ww, RdAt ww r d p → RdAt (ww.setCell ⟨d, 1, none⟩ (.int .i64 (Nib.clm p.t k : Nat))) r d { p with pl := Nib.clm p.t k }) := fun ww hh => hh.set_pl _
  have hcl : Nib.clm p.t k = if Nib.lst p.t k < k then Nib.lst p.t k else k := rfl
  obtain ⟨c0, c1, c2, c3, c4, c5, c6, c7, c8, c9, fz, lt⟩ := h.dk
  clear c2 c3 c4 c5 c6 c7 c8 c9 h
  generalize Nib.beg p.t k = B at *
  generalize Nib.fin p.t k = F at *
  generalize Nib.lst p.t k = L at *
  generalize hp2 : ({ p with pl := Nib.clm p.t k } : Pg) = p2 at *
  clear hp2
  generalize Nib.clm p.t k = C at *
  have HC : Hid (C = if L < k then L else k) := hcl
  clear hcl
  go_enter Tryz.func179, Tryz.ntmps179
  go_wp2_with fail
  refine (HL.out _).mono ?_
  rintro e w1 ⟨rfl, h1⟩
  obtain ⟨hc1, hf1⟩ := bcell h1
  have hz1 := h1.size
  try simp at hz1
  go_wp2_with fail
  refine (HT.out _).mono ?_
  rintro e w2 ⟨rfl, h2⟩
  obtain ⟨hc2, hf2⟩ := bcell h2
  have hz2 := h2.size
  try simp at hz2
  have H2 := (H.below h1).below h2
  have d0 := H2.dk.c0
  have d1 := H2.dk.c1
  have dz := H2.dk.fz
  have dl := H2.dk.lt
  have HS2 := HS.out _ H2
  clear hc1 hc2 hf1 hf2 H2 c0 c1 fz
  by_cases hlk : L < k
  · rw [HC.out, if_pos hlk] at HS2
    go_wp2
    go_end0
    refine ⟨rfl, ?_, ?_⟩
    · repeat (with_reducible first | exact HS2 | refine r_o ?_ _ | refine RdAt.alloc ?_ _ | refine RdAt.drewN ?_ _ | refine RdAt.drew ?_)
    · repeat (with_reducible first | exact Upd.refl _ _ | assumption | refine u_s ?_ _ | refine Upd.alloc ?_ _ | refine Upd.drewN ?_ _ | refine Upd.drew ?_ | refine Upd.below ?_ h1 | refine Upd.below ?_ h2)
  · rw [HC.out, if_neg hlk] at HS2
    go_wp2
    go_end0
    refine ⟨rfl, ?_, ?_⟩
    · repeat (with_reducible first | exact HS2 | refine r_o ?_ _ | refine RdAt.alloc ?_ _ | refine RdAt.drewN ?_ _ | refine RdAt.drew ?_)
    · repeat (with_reducible first | exact Upd.refl _ _ | assumption | refine u_s ?_ _ | refine Upd.alloc ?_ _ | refine Upd.drewN ?_ _ | refine Upd.drew ?_ | refine Upd.below ?_ h1 | refine Upd.below ?_ h2)
end Go.Proofs.YtlendfhehhacpaaGreat
