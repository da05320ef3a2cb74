/- A part. -/
import Derived.Test.YtlendfhehhacpaaGreatT12
import Derived.Test.YtlendfhehhacpaaGreatT06
set_option linter.unusedVariables false
set_option linter.unusedSimpArgs false
set_option maxRecDepth 100000
set_option maxHeartbeats 8000000
namespace Go.Proofs.YtlendfhehhacpaaGreat
open Go.RowKit Nib Tryz
def foI (o : Option Nat) : Int := ((o.getD 0 : Nat) : Int)
def foB (o : Option Nat) : Bool := o.isSome
theorem qt9 {P : Prop} (h : P := by
  clear FW cW T hBW a0 a1 a2 a3 a4 b0 b1 HO HL HN
  obtain ⟨i, m, hi1, hi2, hg, hm1, hm2, rfl, rfl, hu, F, cW, T, hB⟩ := hrel
  have a0 := F.c0; have a1 := F.c1; have al := F.lt
  have b0 := T.c0; have b1 := T.c1; have bl := T.lt
  have hBi : (B : Int) ≤ (i : Int) := by omega
  by_cases hlt : i < E
  ·have his : i < s.size := by omega
   have hltI : (i : Int) < (E : Int) := by omega
   by_cases hc : bt s i = ch
   ·have hcc : (((s[i]'his).toNat : Int) == ch) = true := by rw [← bt_in his]; simp [hc]
    by_cases hm : m = 1
    ·have HS : Hid (O = some i) := by
      rw [Hid, ← hu.out, show E - i = (E - (i + 1)) + 1 by omega]
      simp only [fndU]
      rw [if_pos hlt, if_pos hc, if_pos hm]
     subst hm
     clear hu hc
     go_wp2_with fail
     go_region
     go_wp2
     all_goals
      first
       | (exact qV (.tuple #[.int .i64 i, .bool true]) (by simp [results, results238, go_sem]) (by rw [HS.out]; rfl))
    ·have HS : Hid (fndU s ch E (E - (i + 1)) (m - 1) (i + 1) = O) := by
      rw [Hid, ← hu.out, show E - i = (E - (i + 1)) + 1 by omega]
      simp only [fndU]
      rw [if_pos hlt, if_pos hc, if_neg hm]
     have hm0 : (((m : Int) - 1) == 0) = false := by simp; omega
     clear hu hc
     go_wp2_with fail
     go_region
     go_wp2
     go_roundg (E + 1 - (i + 1))
     case measure => omega
     case rel => exact ⟨i + 1, m - 1, by omega, by omega, rfl, by omega, by omega, by congr 1; omega, by go_num, HS, F.drew, memLater ((Below.refl _ _).drew) cW, T.drew, hB.drew⟩
   ·have hcc : (((s[i]'his).toNat : Int) == ch) = false := by rw [← bt_in his]; simp [hc]
    have HS : Hid (fndU s ch E (E - (i + 1)) m (i + 1) = O) := by
     rw [Hid, ← hu.out, show E - i = (E - (i + 1)) + 1 by omega]
     simp only [fndU]
     rw [if_pos hlt, if_neg hc]
    have hm0 : ((m : Int) == 0) = false := by simp; omega
    clear hu hc
    go_wp2_with fail
    go_region
    go_wp2
    go_roundg (E + 1 - (i + 1))
    case measure => omega
    case rel => exact ⟨i + 1, m, by omega, by omega, rfl, by omega, by omega, rfl, by go_num, HS, F.drew, memLater ((Below.refl _ _).drew) cW, T.drew, hB.drew⟩
  ·have HS : Hid (O = none) := by
    rw [Hid, ← hu.out, show E - i = 0 by omega]
    rfl
   clear hu
   go_wp2
   all_goals
    first
     | (exact qV (.tuple #[.int .i64 0, .bool false]) (by simp [results, results238, go_sem]) (by rw [HS.out]; rfl))
 ) : P := h
theorem qt81 {P : Prop} (h : P := by
  refine Two.set1 (Two.set0 (x := 0) (y := 0) (Two.below (Two.below (Two.drew ?_) h1) h2) _) _
  have := Two.new ((w.alloc (.cells #[.int .u8 key, .int .u8 ch] 95)).alloc (.cells #[.string s, .int .i64 (p), .int .i64 (n), .bool v, .bool c] 206)) 0 0 128
  simpa using this
 ) : P := h
theorem sSeek_up (s : ByteArray) (p n fr : Nat) (v c : Bool) (key ch : Int) (w : World) (hs : s.size ≤ 1000) (hp : p ≤ s.size) (hn : n ≤ 99) (hfr : fr ≤ 2) (hfr1 : 1 ≤ fr) :
  qC 238 #[.agg #[.int .u8 key, .int .u8 ch], .agg #[.string s, .int .i64 (p), .int .i64 (n), .bool v, .bool c], .int .i64 fr, .int .i64 1] w (.tuple #[.int .i64 (foI (fndU s ch (fin s p) (fin s p - (p + fr)) (max n 1) (p + fr))), .bool (foB (fndU s ch (fin s p) (fin s p - (p + fr)) (max n 1) (p + fr)))]) := by
 have HL : qH 239 #[.agg #[.string s, .int .i64 (p), .int .i64 (n), .bool v, .bool c]] (.agg #[.int .i64 (beg s p), .int .i64 (fin s p)]) := fun ww => sLine_any s p n v c p ww hs rfl hp
 have HN : qH 241 #[.agg #[.string s, .int .i64 (p), .int .i64 (n), .bool v, .bool c]] (.int .i64 ((max n 1 : Nat) : Int)) := by
  exact qt45
 have hN1 : 1 ≤ max n 1 := by omega
 have hN2 : max n 1 ≤ 99 := by omega
 generalize max n 1 = N at *
 generalize hO : fndU s ch (fin s p) (fin s p - (p + fr)) N (p + fr) = O
 have HO : Hid (fndU s ch (fin s p) (fin s p - (p + fr)) N (p + fr) = O) := hO
 clear hO
 have hb := beg_le s p
 have hfl := fin_le hp
 have hfg := fin_ge s p
 generalize beg s p = B at *
 generalize fin s p = E at *
 go_enter func238, ntmps238
 have F : Five (((w.alloc (.cells #[.int .u8 key, .int .u8 ch] 95)).alloc (.cells #[.string s, .int .i64 (p), .int .i64 (n), .bool v, .bool c] 206))) (w.heap.size + 1) s p n v c := by have := Five.new (w.alloc (.cells #[.int .u8 key, .int .u8 ch] 95)) s p n v c 206; simpa using this
 have s0 := F.c0; have s1 := F.c1; have s2 := F.c2; have s3 := F.c3; have s4 := F.c4
 have s5 : (((w.alloc (.cells #[.int .u8 key, .int .u8 ch] 95)).alloc (.cells #[.string s, .int .i64 (p), .int .i64 (n), .bool v, .bool c] 206))).cell? ⟨w.heap.size, 0, none⟩ = some (.int .u8 key) := by simp
 have s6 : (((w.alloc (.cells #[.int .u8 key, .int .u8 ch] 95)).alloc (.cells #[.string s, .int .i64 (p), .int .i64 (n), .bool v, .bool c] 206))).cell? ⟨w.heap.size, 1, none⟩ = some (.int .u8 ch) := by simp
 go_wp2_with fail
 go_region_held3 (fun ww => ww.cell? ⟨w.heap.size + 1, 0, none⟩ = some (.string s) ∧ ww.cell? ⟨w.heap.size + 1, 1, none⟩ = some (.int .i64 p) ∧ ww.cell? ⟨w.heap.size + 1, 2, none⟩ = some (.int .i64 n) ∧ ww.cell? ⟨w.heap.size + 1, 3, none⟩ = some (.bool v) ∧ ww.cell? ⟨w.heap.size + 1, 4, none⟩ = some (.bool c) ∧ ww.cell? ⟨w.heap.size, 0, none⟩ = some (.int .u8 key) ∧ ww.cell? ⟨w.heap.size, 1, none⟩ = some (.int .u8 ch)) ((refine ⟨?_, ?_, ?_, ?_, ?_, ?_, ?_⟩ <;> (first | ((repeat exact qM); done) | (go_simp; done)))) (first | (go_at_call 239; refine (HL.out _).mono ?_; rintro r1 w1 ⟨rfl, h1⟩; obtain ⟨hc1, hf1, hz1⟩ := qb h1; (try simp at hz1); (try have ⟨hl1_0, hk1_0⟩ := qL w.heap.size w1.heap.size); (try have ⟨hl1_1, hk1_1⟩ := qL (w.heap.size + 1) w1.heap.size); (try have ⟨hl1_2, hk1_2⟩ := qL (w.heap.size + 1 + 1) w1.heap.size); (try have ⟨hl1_3, hk1_3⟩ := qL w1.heap.size w1.heap.size)) | (go_at_call 241; refine (HN.out _).mono ?_; rintro r2 w2 ⟨rfl, h2⟩; obtain ⟨hc2, hf2, hz2⟩ := qb h2; (try simp at hz2); (try have ⟨hl2_0, hk2_0⟩ := qL w.heap.size w2.heap.size); (try have ⟨hl2_1, hk2_1⟩ := qL (w.heap.size + 1) w2.heap.size); (try have ⟨hl2_2, hk2_2⟩ := qL (w.heap.size + 1 + 1) w2.heap.size); (try have ⟨hl2_3, hk2_3⟩ := qL w1.heap.size w2.heap.size)))
 ·have T : Two (w2.alloc (.cells #[.int .i64 B, .int .i64 E] 128)) (w2.heap.size) B E := Two.new _ _ _ _
  clear hc1 hf1 hc2 hf2
  have FW : Five (w2.alloc (.cells #[.int .i64 B, .int .i64 E] 128)) (w.heap.size + 1) s p n v c := by
   repeat exact qF
  have cW : (w2.alloc (.cells #[.int .i64 B, .int .i64 E] 128)).cell? ⟨w.heap.size, 1, none⟩ = some (.int .u8 ch) := by
   (repeat exact qM)
  have hBW : Below w.heap.size w (w2.alloc (.cells #[.int .i64 B, .int .i64 E] 128)) := by
   repeat exact qB
  clear F h1 h2 s0 s1 s2 s3 s4 s5 s6
  have a0 := FW.c0; have a1 := FW.c1; have a2 := FW.c2; have a3 := FW.c3; have a4 := FW.c4
  have b0 := T.c0; have b1 := T.c1
  go_wp2
  go_loopg [11, 12] (E + 1 - (p + fr)) (fun g lf pl wr => ∃ i m : Nat, p + fr ≤ i ∧ i ≤ 1100 ∧ g = E + 1 - i ∧ 1 ≤ m ∧ m ≤ 99 ∧ lf = .int .i64 m ∧ pl = .int .i64 i ∧ Hid (fndU s ch E (E - i) m i = O) ∧ Five wr (w.heap.size + 1) s p n v c ∧ wr.cell? ⟨w.heap.size, 1, none⟩ = some (.int .u8 ch) ∧ Two wr (w2.heap.size) B E ∧ Below w.heap.size w wr)
  case atStart => exact ⟨p + fr, N, Nat.le_refl _, by omega, rfl, hN1, hN2, rfl, by go_num, HO, FW, cW, T, hBW⟩
  case round =>
   exact qt9
 ·have T : Two ((w2.setCell ⟨w1.heap.size, 0, none⟩ (.int .i64 B)).setCell ⟨w1.heap.size, 1, none⟩ (.int .i64 E)) (w1.heap.size) B E := Two.set1 (Two.set0 (Two.below (Two.new _ 0 0 _) h2) _) _
  clear hc1 hf1 hc2 hf2
  have FW : Five ((w2.setCell ⟨w1.heap.size, 0, none⟩ (.int .i64 B)).setCell ⟨w1.heap.size, 1, none⟩ (.int .i64 E)) (w.heap.size + 1) s p n v c := by
   repeat exact qF
  have cW : ((w2.setCell ⟨w1.heap.size, 0, none⟩ (.int .i64 B)).setCell ⟨w1.heap.size, 1, none⟩ (.int .i64 E)).cell? ⟨w.heap.size, 1, none⟩ = some (.int .u8 ch) := by
   (repeat exact qM)
  have hBW : Below w.heap.size w ((w2.setCell ⟨w1.heap.size, 0, none⟩ (.int .i64 B)).setCell ⟨w1.heap.size, 1, none⟩ (.int .i64 E)) := by
   repeat exact qB
  clear F h1 h2 s0 s1 s2 s3 s4 s5 s6
  have a0 := FW.c0; have a1 := FW.c1; have a2 := FW.c2; have a3 := FW.c3; have a4 := FW.c4
  have b0 := T.c0; have b1 := T.c1
  go_wp2
  go_loopg [11, 12] (E + 1 - (p + fr)) (fun g lf pl wr => ∃ i m : Nat, p + fr ≤ i ∧ i ≤ 1100 ∧ g = E + 1 - i ∧ 1 ≤ m ∧ m ≤ 99 ∧ lf = .int .i64 m ∧ pl = .int .i64 i ∧ Hid (fndU s ch E (E - i) m i = O) ∧ Five wr (w.heap.size + 1) s p n v c ∧ wr.cell? ⟨w.heap.size, 1, none⟩ = some (.int .u8 ch) ∧ Two wr (w1.heap.size) B E ∧ Below w.heap.size w wr)
  case atStart => exact ⟨p + fr, N, Nat.le_refl _, by omega, rfl, hN1, hN2, rfl, by go_num, HO, FW, cW, T, hBW⟩
  case round =>
   exact qt9
 ·have T : Two ((w2.setCell ⟨w.heap.size + 1 + 1, 0, none⟩ (.int .i64 B)).setCell ⟨w.heap.size + 1 + 1, 1, none⟩ (.int .i64 E)) (w.heap.size + 1 + 1) B E := by
   exact qt81
  clear hc1 hf1 hc2 hf2
  have FW : Five ((w2.setCell ⟨w.heap.size + 1 + 1, 0, none⟩ (.int .i64 B)).setCell ⟨w.heap.size + 1 + 1, 1, none⟩ (.int .i64 E)) (w.heap.size + 1) s p n v c := by
   repeat exact qF
  have cW : ((w2.setCell ⟨w.heap.size + 1 + 1, 0, none⟩ (.int .i64 B)).setCell ⟨w.heap.size + 1 + 1, 1, none⟩ (.int .i64 E)).cell? ⟨w.heap.size, 1, none⟩ = some (.int .u8 ch) := by
   (repeat exact qM)
  have hBW : Below w.heap.size w ((w2.setCell ⟨w.heap.size + 1 + 1, 0, none⟩ (.int .i64 B)).setCell ⟨w.heap.size + 1 + 1, 1, none⟩ (.int .i64 E)) := by
   repeat exact qB
  clear F h1 h2 s0 s1 s2 s3 s4 s5 s6
  have a0 := FW.c0; have a1 := FW.c1; have a2 := FW.c2; have a3 := FW.c3; have a4 := FW.c4
  have b0 := T.c0; have b1 := T.c1
  go_wp2
  go_loopg [11, 12] (E + 1 - (p + fr)) (fun g lf pl wr => ∃ i m : Nat, p + fr ≤ i ∧ i ≤ 1100 ∧ g = E + 1 - i ∧ 1 ≤ m ∧ m ≤ 99 ∧ lf = .int .i64 m ∧ pl = .int .i64 i ∧ Hid (fndU s ch E (E - i) m i = O) ∧ Five wr (w.heap.size + 1) s p n v c ∧ wr.cell? ⟨w.heap.size, 1, none⟩ = some (.int .u8 ch) ∧ Two wr (w.heap.size + 1 + 1) B E ∧ Below w.heap.size w wr)
  case atStart => exact ⟨p + fr, N, Nat.le_refl _, by omega, rfl, hN1, hN2, rfl, by go_num, HO, FW, cW, T, hBW⟩
  case round =>
   exact qt9
theorem qt5 {P : Prop} (h : P := by
  clear FW cW T hBW a0 a1 a2 a3 a4 b0 b1 HO HL HN
  obtain ⟨i, m, hi1, hi2, hg, hm1, hm2, rfl, rfl, hu, F, cW, T, hB⟩ := hrel
  have a0 := F.c0; have a1 := F.c1; have al := F.lt
  have b0 := T.c0; have b1 := T.c1; have bl := T.lt
  by_cases hlt : (B : Int) ≤ i
  ·obtain ⟨i, rfl⟩ := Int.eq_ofNat_of_zero_le (show 0 ≤ i by omega)
   have his : i < s.size := by omega
   have hltI : (i : Int) < (E : Int) := by omega
   have e1 : ((i : Int) + 1).toNat = i + 1 := by omega
   have e2 : ((i : Int) - 1 + 1).toNat = i := by omega
   have hBn : B ≤ i := by omega
   by_cases hc : bt s i = ch
   ·have hcc : (((s[i]'his).toNat : Int) == ch) = true := by rw [← bt_in his]; simp [hc]
    by_cases hm : m = 1
    ·have HS : Hid (O = some i) := by
      rw [Hid, ← hu.out, e1]
      simp only [fndD]
      rw [if_pos hBn, if_pos hc, if_pos hm]
     subst hm
     clear hu hc e1 e2
     go_wp2_with fail
     go_region
     go_wp2
     all_goals
      first
       | (exact qV (.tuple #[.int .i64 i, .bool true]) (by simp [results, results238, go_sem]) (by rw [HS.out]; rfl))
    ·have HS : Hid (fndD s ch B (m - 1) ((i : Int) - 1 + 1).toNat = O) := by
      rw [Hid, ← hu.out, e1, e2]
      simp only [fndD]
      rw [if_pos hBn, if_pos hc, if_neg hm]
     have hm0 : (((m : Int) - 1) == 0) = false := by simp; omega
     clear hu hc e1 e2
     go_wp2_with fail
     go_region
     go_wp2
     go_roundg ((i : Int) - 1 + 3).toNat
     case measure => omega
     case rel => exact ⟨(i : Int) - 1, m - 1, by omega, by omega, rfl, by omega, by omega, by first | rfl | (congr 1; omega), by first | rfl | (congr 1; omega), HS, F.drew, memLater ((Below.refl _ _).drew) cW, T.drew, hB.drew⟩
   ·have hcc : (((s[i]'his).toNat : Int) == ch) = false := by rw [← bt_in his]; simp [hc]
    have HS : Hid (fndD s ch B m ((i : Int) - 1 + 1).toNat = O) := by
     rw [Hid, ← hu.out, e1, e2]
     simp only [fndD]
     rw [if_pos hBn, if_neg hc]
    have hm0 : ((m : Int) == 0) = false := by simp; omega
    clear hu hc e1 e2
    go_wp2_with fail
    go_region
    go_wp2
    go_roundg ((i : Int) - 1 + 3).toNat
    case measure => omega
    case rel => exact ⟨(i : Int) - 1, m, by omega, by omega, rfl, by omega, by omega, rfl, by first | rfl | (congr 1; omega), HS, F.drew, memLater ((Below.refl _ _).drew) cW, T.drew, hB.drew⟩
  ·have HS : Hid (O = none) := by
    rw [Hid, ← hu.out]
    cases hq : (i + 1).toNat with
    | zero => rfl
    | succ j => simp only [fndD]; rw [if_neg qo]
   clear hu
   go_wp2
   all_goals
    first
     | (exact qV (.tuple #[.int .i64 0, .bool false]) (by simp [results, results238, go_sem]) (by rw [HS.out]; rfl))
 ) : P := h
theorem sSeek_down (s : ByteArray) (p n fr : Nat) (v c : Bool) (key ch : Int) (w : World) (hs : s.size ≤ 1000) (hp : p ≤ s.size) (hn : n ≤ 99) (hfr : fr ≤ 2) (hfr1 : 1 ≤ fr) :
  qC 238 #[.agg #[.int .u8 key, .int .u8 ch], .agg #[.string s, .int .i64 (p), .int .i64 (n), .bool v, .bool c], .int .i64 fr, .int .i64 (-1)] w (.tuple #[.int .i64 (foI (fndD s ch (beg s p) (max n 1) (p + 1 - fr))), .bool (foB (fndD s ch (beg s p) (max n 1) (p + 1 - fr)))]) := by
 have HL : qH 239 #[.agg #[.string s, .int .i64 (p), .int .i64 (n), .bool v, .bool c]] (.agg #[.int .i64 (beg s p), .int .i64 (fin s p)]) := fun ww => sLine_any s p n v c p ww hs rfl hp
 have HN : qH 241 #[.agg #[.string s, .int .i64 (p), .int .i64 (n), .bool v, .bool c]] (.int .i64 ((max n 1 : Nat) : Int)) := by
  exact qt45
 have hN1 : 1 ≤ max n 1 := by omega
 have hN2 : max n 1 ≤ 99 := by omega
 generalize max n 1 = N at *
 generalize hO : fndD s ch (beg s p) N (p + 1 - fr) = O
 have HO : Hid (fndD s ch (beg s p) N (p + 1 - fr) = O) := hO
 clear hO
 have hb := beg_le s p
 have hfl := fin_le hp
 have hfg := fin_ge s p
 generalize beg s p = B at *
 generalize fin s p = E at *
 go_enter func238, ntmps238
 have F : Five (((w.alloc (.cells #[.int .u8 key, .int .u8 ch] 95)).alloc (.cells #[.string s, .int .i64 (p), .int .i64 (n), .bool v, .bool c] 206))) (w.heap.size + 1) s p n v c := by have := Five.new (w.alloc (.cells #[.int .u8 key, .int .u8 ch] 95)) s p n v c 206; simpa using this
 have s0 := F.c0; have s1 := F.c1; have s2 := F.c2; have s3 := F.c3; have s4 := F.c4
 have s5 : (((w.alloc (.cells #[.int .u8 key, .int .u8 ch] 95)).alloc (.cells #[.string s, .int .i64 (p), .int .i64 (n), .bool v, .bool c] 206))).cell? ⟨w.heap.size, 0, none⟩ = some (.int .u8 key) := by simp
 have s6 : (((w.alloc (.cells #[.int .u8 key, .int .u8 ch] 95)).alloc (.cells #[.string s, .int .i64 (p), .int .i64 (n), .bool v, .bool c] 206))).cell? ⟨w.heap.size, 1, none⟩ = some (.int .u8 ch) := by simp
 go_wp2_with fail
 go_region_held3 (fun ww => ww.cell? ⟨w.heap.size + 1, 0, none⟩ = some (.string s) ∧ ww.cell? ⟨w.heap.size + 1, 1, none⟩ = some (.int .i64 p) ∧ ww.cell? ⟨w.heap.size + 1, 2, none⟩ = some (.int .i64 n) ∧ ww.cell? ⟨w.heap.size + 1, 3, none⟩ = some (.bool v) ∧ ww.cell? ⟨w.heap.size + 1, 4, none⟩ = some (.bool c) ∧ ww.cell? ⟨w.heap.size, 0, none⟩ = some (.int .u8 key) ∧ ww.cell? ⟨w.heap.size, 1, none⟩ = some (.int .u8 ch)) ((refine ⟨?_, ?_, ?_, ?_, ?_, ?_, ?_⟩ <;> (first | ((repeat exact qM); done) | (go_simp; done)))) (first | (go_at_call 239; refine (HL.out _).mono ?_; rintro r1 w1 ⟨rfl, h1⟩; obtain ⟨hc1, hf1, hz1⟩ := qb h1; (try simp at hz1); (try have ⟨hl1_0, hk1_0⟩ := qL w.heap.size w1.heap.size); (try have ⟨hl1_1, hk1_1⟩ := qL (w.heap.size + 1) w1.heap.size); (try have ⟨hl1_2, hk1_2⟩ := qL (w.heap.size + 1 + 1) w1.heap.size); (try have ⟨hl1_3, hk1_3⟩ := qL w1.heap.size w1.heap.size)) | (go_at_call 241; refine (HN.out _).mono ?_; rintro r2 w2 ⟨rfl, h2⟩; obtain ⟨hc2, hf2, hz2⟩ := qb h2; (try simp at hz2); (try have ⟨hl2_0, hk2_0⟩ := qL w.heap.size w2.heap.size); (try have ⟨hl2_1, hk2_1⟩ := qL (w.heap.size + 1) w2.heap.size); (try have ⟨hl2_2, hk2_2⟩ := qL (w.heap.size + 1 + 1) w2.heap.size); (try have ⟨hl2_3, hk2_3⟩ := qL w1.heap.size w2.heap.size)))
 ·have T : Two (w2.alloc (.cells #[.int .i64 B, .int .i64 E] 128)) (w2.heap.size) B E := Two.new _ _ _ _
  clear hc1 hf1 hc2 hf2
  have FW : Five (w2.alloc (.cells #[.int .i64 B, .int .i64 E] 128)) (w.heap.size + 1) s p n v c := by
   repeat exact qF
  have cW : (w2.alloc (.cells #[.int .i64 B, .int .i64 E] 128)).cell? ⟨w.heap.size, 1, none⟩ = some (.int .u8 ch) := by
   (repeat exact qM)
  have hBW : Below w.heap.size w (w2.alloc (.cells #[.int .i64 B, .int .i64 E] 128)) := by
   repeat exact qB
  clear F h1 h2 s0 s1 s2 s3 s4 s5 s6
  have a0 := FW.c0; have a1 := FW.c1; have a2 := FW.c2; have a3 := FW.c3; have a4 := FW.c4
  have b0 := T.c0; have b1 := T.c1
  go_wp2
  go_loopg [11, 12] ((p : Int) - fr + 3).toNat (fun g lf pl wr => ∃ (i : Int) (m : Nat), -2 ≤ i ∧ i < p ∧ g = (i + 3).toNat ∧ 1 ≤ m ∧ m ≤ 99 ∧ lf = .int .i64 m ∧ pl = .int .i64 i ∧ Hid (fndD s ch B m (i + 1).toNat = O) ∧ Five wr (w.heap.size + 1) s p n v c ∧ wr.cell? ⟨w.heap.size, 1, none⟩ = some (.int .u8 ch) ∧ Two wr (w2.heap.size) B E ∧ Below w.heap.size w wr)
  case atStart => exact ⟨(p : Int) - fr, N, by omega, by omega, rfl, hN1, hN2, rfl, by first | rfl | (congr 1; omega), by rw [Hid, ← HO.out]; congr 1; omega, FW, cW, T, hBW⟩
  case round =>
   exact qt5
 ·have T : Two ((w2.setCell ⟨w1.heap.size, 0, none⟩ (.int .i64 B)).setCell ⟨w1.heap.size, 1, none⟩ (.int .i64 E)) (w1.heap.size) B E := Two.set1 (Two.set0 (Two.below (Two.new _ 0 0 _) h2) _) _
  clear hc1 hf1 hc2 hf2
  have FW : Five ((w2.setCell ⟨w1.heap.size, 0, none⟩ (.int .i64 B)).setCell ⟨w1.heap.size, 1, none⟩ (.int .i64 E)) (w.heap.size + 1) s p n v c := by
   repeat exact qF
  have cW : ((w2.setCell ⟨w1.heap.size, 0, none⟩ (.int .i64 B)).setCell ⟨w1.heap.size, 1, none⟩ (.int .i64 E)).cell? ⟨w.heap.size, 1, none⟩ = some (.int .u8 ch) := by
   (repeat exact qM)
  have hBW : Below w.heap.size w ((w2.setCell ⟨w1.heap.size, 0, none⟩ (.int .i64 B)).setCell ⟨w1.heap.size, 1, none⟩ (.int .i64 E)) := by
   repeat exact qB
  clear F h1 h2 s0 s1 s2 s3 s4 s5 s6
  have a0 := FW.c0; have a1 := FW.c1; have a2 := FW.c2; have a3 := FW.c3; have a4 := FW.c4
  have b0 := T.c0; have b1 := T.c1
  go_wp2
  go_loopg [11, 12] ((p : Int) - fr + 3).toNat (fun g lf pl wr => ∃ (i : Int) (m : Nat), -2 ≤ i ∧ i < p ∧ g = (i + 3).toNat ∧ 1 ≤ m ∧ m ≤ 99 ∧ lf = .int .i64 m ∧ pl = .int .i64 i ∧ Hid (fndD s ch B m (i + 1).toNat = O) ∧ Five wr (w.heap.size + 1) s p n v c ∧ wr.cell? ⟨w.heap.size, 1, none⟩ = some (.int .u8 ch) ∧ Two wr (w1.heap.size) B E ∧ Below w.heap.size w wr)
  case atStart => exact ⟨(p : Int) - fr, N, by omega, by omega, rfl, hN1, hN2, rfl, by first | rfl | (congr 1; omega), by rw [Hid, ← HO.out]; congr 1; omega, FW, cW, T, hBW⟩
  case round =>
   exact qt5
 ·have T : Two ((w2.setCell ⟨w.heap.size + 1 + 1, 0, none⟩ (.int .i64 B)).setCell ⟨w.heap.size + 1 + 1, 1, none⟩ (.int .i64 E)) (w.heap.size + 1 + 1) B E := by
   exact qt81
  clear hc1 hf1 hc2 hf2
  have FW : Five ((w2.setCell ⟨w.heap.size + 1 + 1, 0, none⟩ (.int .i64 B)).setCell ⟨w.heap.size + 1 + 1, 1, none⟩ (.int .i64 E)) (w.heap.size + 1) s p n v c := by
   repeat exact qF
  have cW : ((w2.setCell ⟨w.heap.size + 1 + 1, 0, none⟩ (.int .i64 B)).setCell ⟨w.heap.size + 1 + 1, 1, none⟩ (.int .i64 E)).cell? ⟨w.heap.size, 1, none⟩ = some (.int .u8 ch) := by
   (repeat exact qM)
  have hBW : Below w.heap.size w ((w2.setCell ⟨w.heap.size + 1 + 1, 0, none⟩ (.int .i64 B)).setCell ⟨w.heap.size + 1 + 1, 1, none⟩ (.int .i64 E)) := by
   repeat exact qB
  clear F h1 h2 s0 s1 s2 s3 s4 s5 s6
  have a0 := FW.c0; have a1 := FW.c1; have a2 := FW.c2; have a3 := FW.c3; have a4 := FW.c4
  have b0 := T.c0; have b1 := T.c1
  go_wp2
  go_loopg [11, 12] ((p : Int) - fr + 3).toNat (fun g lf pl wr => ∃ (i : Int) (m : Nat), -2 ≤ i ∧ i < p ∧ g = (i + 3).toNat ∧ 1 ≤ m ∧ m ≤ 99 ∧ lf = .int .i64 m ∧ pl = .int .i64 i ∧ Hid (fndD s ch B m (i + 1).toNat = O) ∧ Five wr (w.heap.size + 1) s p n v c ∧ wr.cell? ⟨w.heap.size, 1, none⟩ = some (.int .u8 ch) ∧ Two wr (w.heap.size + 1 + 1) B E ∧ Below w.heap.size w wr)
  case atStart => exact ⟨(p : Int) - fr, N, by omega, by omega, rfl, hN1, hN2, rfl, by first | rfl | (congr 1; omega), by rw [Hid, ← HO.out]; congr 1; omega, FW, cW, T, hBW⟩
  case round =>
   exact qt5
def isFnd (key : Int) : Prop := key = 102 ∨ key = 116 ∨ key = 70 ∨ key = 84
def shortOf (key : Int) : Bool := key == 116 || key == 84
theorem sShort_any (key ch : Int) (w : World) :
  qC 224 #[.agg #[.int .u8 key, .int .u8 ch]] w (.bool (shortOf key)) := by
 by_cases hk : key = 116
 ·subst hk
  go_enter func224, ntmps224
  go_wp2
  all_goals
   first
    | (exact qV (.bool true) (by simp [results, results224, go_sem]) rfl)
 ·have e : shortOf key = (key == 84) := by unfold shortOf; simp [hk]
  rw [e]
  have hb : (key == 116) = false := by simp [hk]
  go_enter func224, ntmps224
  go_wp2
  all_goals
   first
    | (exact qV (.bool (key == 84)) (by simp [results, results224, go_sem]) rfl)
theorem sGoFrom_none (s : ByteArray) (p n fr ch : Int) (v c : Bool) (w : World) :
  qC 204 #[.agg #[.int .u8 0, .int .u8 ch], .agg #[.string s, .int .i64 (p), .int .i64 (n), .bool v, .bool c], .int .i64 fr] w (.tuple #[.agg #[.int .i64 (wayX (((0 : Int), (0 : Int), true))), .int .i64 (wayK (((0 : Int), (0 : Int), true)))], .bool (wayZ (((0 : Int), (0 : Int), true)))]) := by
 rw [wayX_t, wayK_t, wayZ_t]
 go_enter func204, ntmps204
 go_wp2
 all_goals
  first
   | (exact qV (.tuple #[.agg #[.int .i64 0, .int .i64 0], .bool false]) (by simp [results, results204, go_sem]) rfl)
theorem qt40 {P : Prop} (h : P := by
  have g2 : w1.cell? ⟨w.heap.size, 1, none⟩ = some (.int .u8 ch) := memLater h1 f2
  clear hc1 hf1
  go_wp2
  all_goals
   first
    | (exact qV (.tuple #[.agg #[.int .i64 0, .int .i64 0], .bool false]) (by simp [results, results204, go_sem, RB1_0, RB1_1, RB1_z, RB1_l]) rfl)
 ) : P := h
theorem sGoFrom_up (s : ByteArray) (p n fr : Nat) (v c : Bool) (key ch : Int) (w : World) (hs : s.size ≤ 1000) (hp : p ≤ s.size) (hn : n ≤ 99) (hfr : fr ≤ 2) (hfr1 : 1 ≤ fr) (hk : key = 102 ∨ key = 116) :
  qC 204 #[.agg #[.int .u8 key, .int .u8 ch], .agg #[.string s, .int .i64 (p), .int .i64 (n), .bool v, .bool c], .int .i64 fr] w (.tuple #[.agg #[.int .i64 (wayX (byteWay s p key ch (max n 1) fr)), .int .i64 (wayK (byteWay s p key ch (max n 1) fr))], .bool (wayZ (byteWay s p key ch (max n 1) fr))]) := by
 have HS : qH 238 #[.agg #[.int .u8 key, .int .u8 ch], .agg #[.string s, .int .i64 (p), .int .i64 (n), .bool v, .bool c], .int .i64 fr, .int .i64 1] (.tuple #[.int .i64 (foI (fndU s ch (fin s p) (fin s p - (p + fr)) (max n 1) (p + fr))), .bool (foB (fndU s ch (fin s p) (fin s p - (p + fr)) (max n 1) (p + fr)))]) := fun ww => sSeek_up s p n fr v c key ch ww hs hp hn hfr hfr1
 have HT : qH 224 #[.agg #[.int .u8 key, .int .u8 ch]] (.bool (shortOf key)) := fun ww => sShort_any key ch ww
 have HW : Hid (byteWay s p key ch (max n 1) fr = resU (if shortOf key = true then (-1) else 0) (fndU s ch (fin s p) (fin s p - (p + fr)) (max n 1) (p + fr))) := by
  rw [Hid]; unfold byteWay
  rcases hk with rfl | rfl
  ·rfl
  ·rfl
 have hlt : ∀ i, fndU s ch (fin s p) (fin s p - (p + fr)) (max n 1) (p + fr) = some i → i < 1000 := by
  intro i hi
  have h1 := (fndU_lt _ _ _ _ hi).2
  have h2 := fin_le hp
  omega
 generalize fndU s ch (fin s p) (fin s p - (p + fr)) (max n 1) (p + fr) = O at *
 generalize byteWay s p key ch (max n 1) fr = R at *
 cases O with
 | none =>
  have HZ : Hid (R = (0, 0, true)) := by rw [Hid, HW.out]; rfl
  clear HW hlt
  rw [HZ.out, wayX_t, wayK_t, wayZ_t]
  have HS' : qH 238 #[.agg #[.int .u8 key, .int .u8 ch], .agg #[.string s, .int .i64 (p), .int .i64 (n), .bool v, .bool c], .int .i64 fr, .int .i64 1] (.tuple #[.int .i64 0, .bool false]) := HS
  clear HS HZ
  rcases hk with rfl | rfl
  ·go_enter func204, ntmps204
   have RB : Two (((w.alloc (.cells #[.int .u8 102, .int .u8 ch] 95)).alloc (.cells #[.string s, .int .i64 (p), .int .i64 (n), .bool v, .bool c] 206)).alloc (.cells #[.int .i64 0, .int .i64 0] 202)) (w.heap.size + 1 + 1) 0 0 := qN
   have f1 : (((w.alloc (.cells #[.int .u8 102, .int .u8 ch] 95)).alloc (.cells #[.string s, .int .i64 (p), .int .i64 (n), .bool v, .bool c] 206)).alloc (.cells #[.int .i64 0, .int .i64 0] 202)).cell? ⟨w.heap.size, 0, none⟩ = some (.int .u8 102) := memLater ((Below.refl _ _).alloc (Nat.le_refl _) _) qi
   have f2 : (((w.alloc (.cells #[.int .u8 102, .int .u8 ch] 95)).alloc (.cells #[.string s, .int .i64 (p), .int .i64 (n), .bool v, .bool c] 206)).alloc (.cells #[.int .i64 0, .int .i64 0] 202)).cell? ⟨w.heap.size, 1, none⟩ = some (.int .u8 ch) := memLater ((Below.refl _ _).alloc (Nat.le_refl _) _) qi
   go_wp2_with fail
   refine (HS'.out _).mono ?_
   rintro r1 w1 ⟨rfl, h1⟩
   obtain ⟨hc1, hf1, hz1⟩ := qb h1
   (try simp at hz1)
   have RB1 : Two w1 (w.heap.size + 1 + 1) (0) (0) := qTw
   have ⟨RB1_0, RB1_1, RB1_z, RB1_l⟩ := RB1
   have g1 : w1.cell? ⟨w.heap.size, 0, none⟩ = some (.int .u8 102) := memLater h1 f1
   exact qt40
  ·go_enter func204, ntmps204
   have RB : Two (((w.alloc (.cells #[.int .u8 116, .int .u8 ch] 95)).alloc (.cells #[.string s, .int .i64 (p), .int .i64 (n), .bool v, .bool c] 206)).alloc (.cells #[.int .i64 0, .int .i64 0] 202)) (w.heap.size + 1 + 1) 0 0 := qN
   have f1 : (((w.alloc (.cells #[.int .u8 116, .int .u8 ch] 95)).alloc (.cells #[.string s, .int .i64 (p), .int .i64 (n), .bool v, .bool c] 206)).alloc (.cells #[.int .i64 0, .int .i64 0] 202)).cell? ⟨w.heap.size, 0, none⟩ = some (.int .u8 116) := memLater ((Below.refl _ _).alloc (Nat.le_refl _) _) qi
   have f2 : (((w.alloc (.cells #[.int .u8 116, .int .u8 ch] 95)).alloc (.cells #[.string s, .int .i64 (p), .int .i64 (n), .bool v, .bool c] 206)).alloc (.cells #[.int .i64 0, .int .i64 0] 202)).cell? ⟨w.heap.size, 1, none⟩ = some (.int .u8 ch) := memLater ((Below.refl _ _).alloc (Nat.le_refl _) _) qi
   go_wp2_with fail
   refine (HS'.out _).mono ?_
   rintro r1 w1 ⟨rfl, h1⟩
   obtain ⟨hc1, hf1, hz1⟩ := qb h1
   (try simp at hz1)
   have RB1 : Two w1 (w.heap.size + 1 + 1) (0) (0) := qTw
   have ⟨RB1_0, RB1_1, RB1_z, RB1_l⟩ := RB1
   have g1 : w1.cell? ⟨w.heap.size, 0, none⟩ = some (.int .u8 116) := memLater h1 f1
   exact qt40
 | some i =>
  have hi := hlt i rfl
  have HS' : qH 238 #[.agg #[.int .u8 key, .int .u8 ch], .agg #[.string s, .int .i64 (p), .int .i64 (n), .bool v, .bool c], .int .i64 fr, .int .i64 1] (.tuple #[.int .i64 i, .bool true]) := HS
  clear HS hlt
  rcases hk with rfl | rfl
  ·have HZ : Hid (R = ((i : Int) + 0, 1, false)) := HW.out
   rw [HZ.out, wayX_f, wayK_f, wayZ_f, Int.add_zero]
   have HT : qH 224 #[.agg #[.int .u8 102, .int .u8 ch]] (.bool false) := HT
   clear HW HZ
   go_enter func204, ntmps204
   have RB : Two (((w.alloc (.cells #[.int .u8 102, .int .u8 ch] 95)).alloc (.cells #[.string s, .int .i64 (p), .int .i64 (n), .bool v, .bool c] 206)).alloc (.cells #[.int .i64 0, .int .i64 0] 202)) (w.heap.size + 1 + 1) 0 0 := qN
   have f1 : (((w.alloc (.cells #[.int .u8 102, .int .u8 ch] 95)).alloc (.cells #[.string s, .int .i64 (p), .int .i64 (n), .bool v, .bool c] 206)).alloc (.cells #[.int .i64 0, .int .i64 0] 202)).cell? ⟨w.heap.size, 0, none⟩ = some (.int .u8 102) := memLater ((Below.refl _ _).alloc (Nat.le_refl _) _) qi
   have f2 : (((w.alloc (.cells #[.int .u8 102, .int .u8 ch] 95)).alloc (.cells #[.string s, .int .i64 (p), .int .i64 (n), .bool v, .bool c] 206)).alloc (.cells #[.int .i64 0, .int .i64 0] 202)).cell? ⟨w.heap.size, 1, none⟩ = some (.int .u8 ch) := memLater ((Below.refl _ _).alloc (Nat.le_refl _) _) qi
   go_wp2_with fail
   refine (HS'.out _).mono ?_
   rintro r1 w1 ⟨rfl, h1⟩
   obtain ⟨hc1, hf1, hz1⟩ := qb h1
   (try simp at hz1)
   have RB1 : Two w1 (w.heap.size + 1 + 1) (0) (0) := qTw
   have ⟨RB1_0, RB1_1, RB1_z, RB1_l⟩ := RB1
   have g1 : w1.cell? ⟨w.heap.size, 0, none⟩ = some (.int .u8 102) := memLater h1 f1
   have g2 : w1.cell? ⟨w.heap.size, 1, none⟩ = some (.int .u8 ch) := memLater h1 f2
   clear hc1 hf1
   go_wp2_with fail
   refine (HT.out _).mono ?_
   rintro r2 w2 ⟨rfl, h2⟩
   obtain ⟨hc2, hf2, hz2⟩ := qb h2
   (try simp at hz2)
   have RB2 : Two w2 (w.heap.size + 1 + 1) (0) (0) := qTw
   have ⟨RB2_0, RB2_1, RB2_z, RB2_l⟩ := RB2
   clear hc2 hf2
   go_wp2
   all_goals
    first
     | (exact qV (.tuple #[.agg #[.int .i64 i, .int .i64 1], .bool true]) (by simp [results, results204, go_sem, RB2_0, RB2_1, RB2_z, RB2_l]) rfl)
  ·have HZ : Hid (R = ((i : Int) + (-1), 1, false)) := HW.out
   rw [HZ.out, wayX_f, wayK_f, wayZ_f]
   have HT : qH 224 #[.agg #[.int .u8 116, .int .u8 ch]] (.bool true) := HT
   clear HW HZ
   go_enter func204, ntmps204
   have RB : Two (((w.alloc (.cells #[.int .u8 116, .int .u8 ch] 95)).alloc (.cells #[.string s, .int .i64 (p), .int .i64 (n), .bool v, .bool c] 206)).alloc (.cells #[.int .i64 0, .int .i64 0] 202)) (w.heap.size + 1 + 1) 0 0 := qN
   have f1 : (((w.alloc (.cells #[.int .u8 116, .int .u8 ch] 95)).alloc (.cells #[.string s, .int .i64 (p), .int .i64 (n), .bool v, .bool c] 206)).alloc (.cells #[.int .i64 0, .int .i64 0] 202)).cell? ⟨w.heap.size, 0, none⟩ = some (.int .u8 116) := memLater ((Below.refl _ _).alloc (Nat.le_refl _) _) qi
   have f2 : (((w.alloc (.cells #[.int .u8 116, .int .u8 ch] 95)).alloc (.cells #[.string s, .int .i64 (p), .int .i64 (n), .bool v, .bool c] 206)).alloc (.cells #[.int .i64 0, .int .i64 0] 202)).cell? ⟨w.heap.size, 1, none⟩ = some (.int .u8 ch) := memLater ((Below.refl _ _).alloc (Nat.le_refl _) _) qi
   go_wp2_with fail
   refine (HS'.out _).mono ?_
   rintro r1 w1 ⟨rfl, h1⟩
   obtain ⟨hc1, hf1, hz1⟩ := qb h1
   (try simp at hz1)
   have RB1 : Two w1 (w.heap.size + 1 + 1) (0) (0) := qTw
   have ⟨RB1_0, RB1_1, RB1_z, RB1_l⟩ := RB1
   have g1 : w1.cell? ⟨w.heap.size, 0, none⟩ = some (.int .u8 116) := memLater h1 f1
   have g2 : w1.cell? ⟨w.heap.size, 1, none⟩ = some (.int .u8 ch) := memLater h1 f2
   clear hc1 hf1
   go_wp2_with fail
   refine (HT.out _).mono ?_
   rintro r2 w2 ⟨rfl, h2⟩
   obtain ⟨hc2, hf2, hz2⟩ := qb h2
   (try simp at hz2)
   have RB2 : Two w2 (w.heap.size + 1 + 1) (0) (0) := qTw
   have ⟨RB2_0, RB2_1, RB2_z, RB2_l⟩ := RB2
   clear hc2 hf2
   go_wp2
   all_goals
    first
     | (exact qV (.tuple #[.agg #[.int .i64 ((i : Int) - 1), .int .i64 1], .bool true]) (by simp [results, results204, go_sem, RB2_0, RB2_1, RB2_z, RB2_l]) (by first | rfl | (congr 1; done)))
theorem sGoFrom_down (s : ByteArray) (p n fr : Nat) (v c : Bool) (key ch : Int) (w : World) (hs : s.size ≤ 1000) (hp : p ≤ s.size) (hn : n ≤ 99) (hfr : fr ≤ 2) (hfr1 : 1 ≤ fr) (hk : key = 70 ∨ key = 84) :
  qC 204 #[.agg #[.int .u8 key, .int .u8 ch], .agg #[.string s, .int .i64 (p), .int .i64 (n), .bool v, .bool c], .int .i64 fr] w (.tuple #[.agg #[.int .i64 (wayX (byteWay s p key ch (max n 1) fr)), .int .i64 (wayK (byteWay s p key ch (max n 1) fr))], .bool (wayZ (byteWay s p key ch (max n 1) fr))]) := by
 have HS : qH 238 #[.agg #[.int .u8 key, .int .u8 ch], .agg #[.string s, .int .i64 (p), .int .i64 (n), .bool v, .bool c], .int .i64 fr, .int .i64 (-1)] (.tuple #[.int .i64 (foI (fndD s ch (beg s p) (max n 1) (p + 1 - fr))), .bool (foB (fndD s ch (beg s p) (max n 1) (p + 1 - fr)))]) := fun ww => sSeek_down s p n fr v c key ch ww hs hp hn hfr hfr1
 have HT : qH 224 #[.agg #[.int .u8 key, .int .u8 ch]] (.bool (shortOf key)) := fun ww => sShort_any key ch ww
 have HW : Hid (byteWay s p key ch (max n 1) fr = resD (if shortOf key = true then 1 else 0) (fndD s ch (beg s p) (max n 1) (p + 1 - fr))) := by
  rw [Hid]; unfold byteWay
  rcases hk with rfl | rfl
  ·rfl
  ·rfl
 have hlt : ∀ i, fndD s ch (beg s p) (max n 1) (p + 1 - fr) = some i → i < 1000 := by
  intro i hi
  have h1 := (fndD_lt _ _ _ hi).2
  have h2 := fin_le hp
  omega
 generalize fndD s ch (beg s p) (max n 1) (p + 1 - fr) = O at *
 generalize byteWay s p key ch (max n 1) fr = R at *
 cases O with
 | none =>
  have HZ : Hid (R = (0, 0, true)) := by rw [Hid, HW.out]; rfl
  clear HW hlt
  rw [HZ.out, wayX_t, wayK_t, wayZ_t]
  have HS' : qH 238 #[.agg #[.int .u8 key, .int .u8 ch], .agg #[.string s, .int .i64 (p), .int .i64 (n), .bool v, .bool c], .int .i64 fr, .int .i64 (-1)] (.tuple #[.int .i64 0, .bool false]) := HS
  clear HS HZ
  rcases hk with rfl | rfl
  ·go_enter func204, ntmps204
   have RB : Two (((w.alloc (.cells #[.int .u8 70, .int .u8 ch] 95)).alloc (.cells #[.string s, .int .i64 (p), .int .i64 (n), .bool v, .bool c] 206)).alloc (.cells #[.int .i64 0, .int .i64 0] 202)) (w.heap.size + 1 + 1) 0 0 := qN
   have f1 : (((w.alloc (.cells #[.int .u8 70, .int .u8 ch] 95)).alloc (.cells #[.string s, .int .i64 (p), .int .i64 (n), .bool v, .bool c] 206)).alloc (.cells #[.int .i64 0, .int .i64 0] 202)).cell? ⟨w.heap.size, 0, none⟩ = some (.int .u8 70) := memLater ((Below.refl _ _).alloc (Nat.le_refl _) _) qi
   have f2 : (((w.alloc (.cells #[.int .u8 70, .int .u8 ch] 95)).alloc (.cells #[.string s, .int .i64 (p), .int .i64 (n), .bool v, .bool c] 206)).alloc (.cells #[.int .i64 0, .int .i64 0] 202)).cell? ⟨w.heap.size, 1, none⟩ = some (.int .u8 ch) := memLater ((Below.refl _ _).alloc (Nat.le_refl _) _) qi
   go_wp2_with fail
   refine (HS'.out _).mono ?_
   rintro r1 w1 ⟨rfl, h1⟩
   obtain ⟨hc1, hf1, hz1⟩ := qb h1
   (try simp at hz1)
   have RB1 : Two w1 (w.heap.size + 1 + 1) (0) (0) := qTw
   have ⟨RB1_0, RB1_1, RB1_z, RB1_l⟩ := RB1
   have g1 : w1.cell? ⟨w.heap.size, 0, none⟩ = some (.int .u8 70) := memLater h1 f1
   exact qt40
  ·go_enter func204, ntmps204
   have RB : Two (((w.alloc (.cells #[.int .u8 84, .int .u8 ch] 95)).alloc (.cells #[.string s, .int .i64 (p), .int .i64 (n), .bool v, .bool c] 206)).alloc (.cells #[.int .i64 0, .int .i64 0] 202)) (w.heap.size + 1 + 1) 0 0 := qN
   have f1 : (((w.alloc (.cells #[.int .u8 84, .int .u8 ch] 95)).alloc (.cells #[.string s, .int .i64 (p), .int .i64 (n), .bool v, .bool c] 206)).alloc (.cells #[.int .i64 0, .int .i64 0] 202)).cell? ⟨w.heap.size, 0, none⟩ = some (.int .u8 84) := memLater ((Below.refl _ _).alloc (Nat.le_refl _) _) qi
   have f2 : (((w.alloc (.cells #[.int .u8 84, .int .u8 ch] 95)).alloc (.cells #[.string s, .int .i64 (p), .int .i64 (n), .bool v, .bool c] 206)).alloc (.cells #[.int .i64 0, .int .i64 0] 202)).cell? ⟨w.heap.size, 1, none⟩ = some (.int .u8 ch) := memLater ((Below.refl _ _).alloc (Nat.le_refl _) _) qi
   go_wp2_with fail
   refine (HS'.out _).mono ?_
   rintro r1 w1 ⟨rfl, h1⟩
   obtain ⟨hc1, hf1, hz1⟩ := qb h1
   (try simp at hz1)
   have RB1 : Two w1 (w.heap.size + 1 + 1) (0) (0) := qTw
   have ⟨RB1_0, RB1_1, RB1_z, RB1_l⟩ := RB1
   have g1 : w1.cell? ⟨w.heap.size, 0, none⟩ = some (.int .u8 84) := memLater h1 f1
   exact qt40
 | some i =>
  have hi := hlt i rfl
  have HS' : qH 238 #[.agg #[.int .u8 key, .int .u8 ch], .agg #[.string s, .int .i64 (p), .int .i64 (n), .bool v, .bool c], .int .i64 fr, .int .i64 (-1)] (.tuple #[.int .i64 i, .bool true]) := HS
  clear HS hlt
  rcases hk with rfl | rfl
  ·have HZ : Hid (R = ((i : Int) + 0, 0, false)) := HW.out
   rw [HZ.out, wayX_f, wayK_f, wayZ_f, Int.add_zero]
   have HT : qH 224 #[.agg #[.int .u8 70, .int .u8 ch]] (.bool false) := HT
   clear HW HZ
   go_enter func204, ntmps204
   have RB : Two (((w.alloc (.cells #[.int .u8 70, .int .u8 ch] 95)).alloc (.cells #[.string s, .int .i64 (p), .int .i64 (n), .bool v, .bool c] 206)).alloc (.cells #[.int .i64 0, .int .i64 0] 202)) (w.heap.size + 1 + 1) 0 0 := qN
   have f1 : (((w.alloc (.cells #[.int .u8 70, .int .u8 ch] 95)).alloc (.cells #[.string s, .int .i64 (p), .int .i64 (n), .bool v, .bool c] 206)).alloc (.cells #[.int .i64 0, .int .i64 0] 202)).cell? ⟨w.heap.size, 0, none⟩ = some (.int .u8 70) := memLater ((Below.refl _ _).alloc (Nat.le_refl _) _) qi
   have f2 : (((w.alloc (.cells #[.int .u8 70, .int .u8 ch] 95)).alloc (.cells #[.string s, .int .i64 (p), .int .i64 (n), .bool v, .bool c] 206)).alloc (.cells #[.int .i64 0, .int .i64 0] 202)).cell? ⟨w.heap.size, 1, none⟩ = some (.int .u8 ch) := memLater ((Below.refl _ _).alloc (Nat.le_refl _) _) qi
   go_wp2_with fail
   refine (HS'.out _).mono ?_
   rintro r1 w1 ⟨rfl, h1⟩
   obtain ⟨hc1, hf1, hz1⟩ := qb h1
   (try simp at hz1)
   have RB1 : Two w1 (w.heap.size + 1 + 1) (0) (0) := qTw
   have ⟨RB1_0, RB1_1, RB1_z, RB1_l⟩ := RB1
   have g1 : w1.cell? ⟨w.heap.size, 0, none⟩ = some (.int .u8 70) := memLater h1 f1
   have g2 : w1.cell? ⟨w.heap.size, 1, none⟩ = some (.int .u8 ch) := memLater h1 f2
   clear hc1 hf1
   go_wp2_with fail
   refine (HT.out _).mono ?_
   rintro r2 w2 ⟨rfl, h2⟩
   obtain ⟨hc2, hf2, hz2⟩ := qb h2
   (try simp at hz2)
   have RB2 : Two w2 (w.heap.size + 1 + 1) (0) (0) := qTw
   have ⟨RB2_0, RB2_1, RB2_z, RB2_l⟩ := RB2
   clear hc2 hf2
   go_wp2
   all_goals
    first
     | (exact qV (.tuple #[.agg #[.int .i64 i, .int .i64 0], .bool true]) (by simp [results, results204, go_sem, RB2_0, RB2_1, RB2_z, RB2_l]) rfl)
  ·have HZ : Hid (R = ((i : Int) + 1, 0, false)) := HW.out
   rw [HZ.out, wayX_f, wayK_f, wayZ_f]
   have HT : qH 224 #[.agg #[.int .u8 84, .int .u8 ch]] (.bool true) := HT
   clear HW HZ
   go_enter func204, ntmps204
   have RB : Two (((w.alloc (.cells #[.int .u8 84, .int .u8 ch] 95)).alloc (.cells #[.string s, .int .i64 (p), .int .i64 (n), .bool v, .bool c] 206)).alloc (.cells #[.int .i64 0, .int .i64 0] 202)) (w.heap.size + 1 + 1) 0 0 := qN
   have f1 : (((w.alloc (.cells #[.int .u8 84, .int .u8 ch] 95)).alloc (.cells #[.string s, .int .i64 (p), .int .i64 (n), .bool v, .bool c] 206)).alloc (.cells #[.int .i64 0, .int .i64 0] 202)).cell? ⟨w.heap.size, 0, none⟩ = some (.int .u8 84) := memLater ((Below.refl _ _).alloc (Nat.le_refl _) _) qi
   have f2 : (((w.alloc (.cells #[.int .u8 84, .int .u8 ch] 95)).alloc (.cells #[.string s, .int .i64 (p), .int .i64 (n), .bool v, .bool c] 206)).alloc (.cells #[.int .i64 0, .int .i64 0] 202)).cell? ⟨w.heap.size, 1, none⟩ = some (.int .u8 ch) := memLater ((Below.refl _ _).alloc (Nat.le_refl _) _) qi
   go_wp2_with fail
   refine (HS'.out _).mono ?_
   rintro r1 w1 ⟨rfl, h1⟩
   obtain ⟨hc1, hf1, hz1⟩ := qb h1
   (try simp at hz1)
   have RB1 : Two w1 (w.heap.size + 1 + 1) (0) (0) := qTw
   have ⟨RB1_0, RB1_1, RB1_z, RB1_l⟩ := RB1
   have g1 : w1.cell? ⟨w.heap.size, 0, none⟩ = some (.int .u8 84) := memLater h1 f1
   have g2 : w1.cell? ⟨w.heap.size, 1, none⟩ = some (.int .u8 ch) := memLater h1 f2
   clear hc1 hf1
   go_wp2_with fail
   refine (HT.out _).mono ?_
   rintro r2 w2 ⟨rfl, h2⟩
   obtain ⟨hc2, hf2, hz2⟩ := qb h2
   (try simp at hz2)
   have RB2 : Two w2 (w.heap.size + 1 + 1) (0) (0) := qTw
   have ⟨RB2_0, RB2_1, RB2_z, RB2_l⟩ := RB2
   clear hc2 hf2
   go_wp2
   all_goals
    first
     | (exact qV (.tuple #[.agg #[.int .i64 ((i : Int) + 1), .int .i64 0], .bool true]) (by simp [results, results204, go_sem, RB2_0, RB2_1, RB2_z, RB2_l]) (by first | rfl | (congr 1; done)))
theorem sGoFrom_any (s : ByteArray) (p n fr : Nat) (v c : Bool) (key ch : Int) (w : World) (hs : s.size ≤ 1000) (hp : p ≤ s.size) (hn : n ≤ 99) (hfr : fr ≤ 2) (hfr1 : 1 ≤ fr) (hk : isFnd key) :
  qC 204 #[.agg #[.int .u8 key, .int .u8 ch], .agg #[.string s, .int .i64 (p), .int .i64 (n), .bool v, .bool c], .int .i64 fr] w (.tuple #[.agg #[.int .i64 (wayX (byteWay s p key ch (max n 1) fr)), .int .i64 (wayK (byteWay s p key ch (max n 1) fr))], .bool (wayZ (byteWay s p key ch (max n 1) fr))]) := by
 rcases hk with h | h | h | h
 ·exact sGoFrom_up s p n fr v c key ch w hs hp hn hfr hfr1 (Or.inl h)
 ·exact sGoFrom_up s p n fr v c key ch w hs hp hn hfr hfr1 (Or.inr h)
 ·exact sGoFrom_down s p n fr v c key ch w hs hp hn hfr hfr1 (Or.inl h)
 ·exact sGoFrom_down s p n fr v c key ch w hs hp hn hfr hfr1 (Or.inr h)
theorem sFindGo_gen (s : ByteArray) (p n : Int) (v c : Bool) (key ch : Int) (w : World) (R : Int × Int × Bool)
  (HG : qH 204 #[.agg #[.int .u8 key, .int .u8 ch], .agg #[.string s, .int .i64 (p), .int .i64 (n), .bool v, .bool c], .int .i64 1] (.tuple #[.agg #[.int .i64 (wayX (R)), .int .i64 (wayK (R))], .bool (wayZ (R))])) :
  qC 167 #[.agg #[.int .u8 key, .int .u8 ch], .agg #[.string s, .int .i64 (p), .int .i64 (n), .bool v, .bool c]] w (.tuple #[.agg #[.int .i64 (wayX (R)), .int .i64 (wayK (R))], .bool (wayZ (R))]) := by
 go_enter func167, ntmps167
 have RB : Two (((w.alloc (.cells #[.int .u8 key, .int .u8 ch] 95)).alloc (.cells #[.string s, .int .i64 (p), .int .i64 (n), .bool v, .bool c] 206)).alloc (.cells #[.int .i64 0, .int .i64 0] 202)) (w.heap.size + 1 + 1) 0 0 := qN
 go_wp2_with fail
 refine (HG.out _).mono ?_
 rintro r1 w1 ⟨rfl, h1⟩
 obtain ⟨hc1, hf1, hz1⟩ := qb h1
 (try simp at hz1)
 have RB1 : Two w1 (w.heap.size + 1 + 1) (0) (0) := qTw
 have ⟨RB1_0, RB1_1, RB1_z, RB1_l⟩ := RB1
 clear hc1 hf1
 go_wp2
 all_goals
  first
   | (exact qV (.tuple #[.agg #[.int .i64 (wayX (R)), .int .i64 (wayK (R))], .bool (wayZ (R))]) (by simp [results, results167, go_sem, RB1_0, RB1_1, RB1_z, RB1_l]) rfl)
theorem qt17 {P : Prop} (h : P := by
  rw [hsh] at HT
  clear hsh
  go_enter func183, ntmps183
  have RB : Two (((w.alloc (.cells #[.int .u8 key, .int .u8 ch] 95)).alloc (.cells #[.string s, .int .i64 (p), .int .i64 (n), .bool v, .bool c] 206)).alloc (.cells #[.int .i64 0, .int .i64 0] 202)) (w.heap.size + 1 + 1) 0 0 := qN
  have F : Five (((w.alloc (.cells #[.int .u8 key, .int .u8 ch] 95)).alloc (.cells #[.string s, .int .i64 (p), .int .i64 (n), .bool v, .bool c] 206)).alloc (.cells #[.int .i64 0, .int .i64 0] 202)) (w.heap.size + 1) s p n v c := Five.alloc (by have := Five.new (w.alloc (.cells #[.int .u8 key, .int .u8 ch] 95)) s p n v c 206; simpa using this) _
  have f1 : (((w.alloc (.cells #[.int .u8 key, .int .u8 ch] 95)).alloc (.cells #[.string s, .int .i64 (p), .int .i64 (n), .bool v, .bool c] 206)).alloc (.cells #[.int .i64 0, .int .i64 0] 202)).cell? ⟨w.heap.size, 0, none⟩ = some (.int .u8 key) := memLater ((Below.refl _ _).alloc (Nat.le_refl _) _) qi
  have f2 : (((w.alloc (.cells #[.int .u8 key, .int .u8 ch] 95)).alloc (.cells #[.string s, .int .i64 (p), .int .i64 (n), .bool v, .bool c] 206)).alloc (.cells #[.int .i64 0, .int .i64 0] 202)).cell? ⟨w.heap.size, 1, none⟩ = some (.int .u8 ch) := memLater ((Below.refl _ _).alloc (Nat.le_refl _) _) qi
  go_wp2_with fail
  refine (HT.out _).mono ?_
  rintro r1 w1 ⟨rfl, h1⟩
  obtain ⟨hc1, hf1, hz1⟩ := qb h1
  (try simp at hz1)
  have F1 : Five w1 (w.heap.size + 1) s p n v c := qF
  have ⟨F1_0, F1_1, F1_2, F1_3, F1_4, F1_z, F1_l⟩ := F1
  have RB1 : Two w1 (w.heap.size + 1 + 1) (0) (0) := qTw
  have ⟨RB1_0, RB1_1, RB1_z, RB1_l⟩ := RB1
  have g1 : w1.cell? ⟨w.heap.size, 0, none⟩ = some (.int .u8 key) := memLater h1 f1
  have g2 : w1.cell? ⟨w.heap.size, 1, none⟩ = some (.int .u8 ch) := memLater h1 f2
  clear hc1 hf1
  go_wp2_with fail
  refine (HG.out _).mono ?_
  rintro r2 w2 ⟨rfl, h2⟩
  obtain ⟨hc2, hf2, hz2⟩ := qb h2
  (try simp at hz2)
  have RB2 : Two w2 (w.heap.size + 1 + 1) (0) (0) := qTw
  have ⟨RB2_0, RB2_1, RB2_z, RB2_l⟩ := RB2
  clear hc2 hf2
  go_wp2
  all_goals
   first
    | (exact qV (.tuple #[.agg #[.int .i64 (wayX (R)), .int .i64 (wayK (R))], .bool (wayZ (R))]) (by simp [results, results183, go_sem, RB2_0, RB2_1, RB2_z, RB2_l]) rfl)
 ) : P := h
theorem sFindAgain_gen (s : ByteArray) (p n : Int) (v c : Bool) (key ch : Int) (w : World) (R : Int × Int × Bool)
  (HG : qH 204 #[.agg #[.int .u8 key, .int .u8 ch], .agg #[.string s, .int .i64 (p), .int .i64 (n), .bool v, .bool c], .int .i64 (if shortOf key = true then 2 else 1)] (.tuple #[.agg #[.int .i64 (wayX (R)), .int .i64 (wayK (R))], .bool (wayZ (R))])) :
  qC 183 #[.agg #[.int .u8 key, .int .u8 ch], .agg #[.string s, .int .i64 (p), .int .i64 (n), .bool v, .bool c]] w (.tuple #[.agg #[.int .i64 (wayX (R)), .int .i64 (wayK (R))], .bool (wayZ (R))]) := by
 have HT : qH 224 #[.agg #[.int .u8 key, .int .u8 ch]] (.bool (shortOf key)) := fun ww => sShort_any key ch ww
 cases hsh : shortOf key with
 | true =>
  rw [hsh, if_pos rfl] at HG
  exact qt17
 | false =>
  rw [hsh, if_neg qi] at HG
  exact qt17
theorem qt1 {P : Prop} (h : P := by
  go_enter func169, ntmps169
  have RB : Two ((w.alloc (.cells #[.string s, .int .i64 (p), .int .i64 (n), .bool v, .bool c] 206)).alloc (.cells #[.int .i64 0, .int .i64 0] 202)) (w.heap.size + 1) 0 0 := qN
  go_wp2_with fail
  refine (HG.out _).mono ?_
  rintro r1 w1 ⟨rfl, h1⟩
  obtain ⟨hc1, hf1, hz1⟩ := qb h1
  (try simp at hz1)
  have RB1 : Two w1 (w.heap.size + 1) (0) (0) := qTw
  have ⟨RB1_0, RB1_1, RB1_z, RB1_l⟩ := RB1
  clear hc1 hf1
  go_wp2
  all_goals
   first
    | (exact qV (.tuple #[.agg #[.int .i64 (wayX (R)), .int .i64 (wayK (R))], .bool (wayZ (R))]) (by simp [results, results169, go_sem, RB1_0, RB1_1, RB1_z, RB1_l]) rfl)
 ) : P := h
theorem sGo_104 (s : ByteArray) (p n : Int) (v c : Bool) (w : World) (R : Int × Int × Bool)
  (HG : qH 205 #[.agg #[.string s, .int .i64 (p), .int .i64 (n), .bool v, .bool c], .int .u8 104] (.tuple #[.agg #[.int .i64 (wayX (R)), .int .i64 (wayK (R))], .bool (wayZ (R))])) :
  qC 169 #[.int .u8 104, .agg #[.string s, .int .i64 (p), .int .i64 (n), .bool v, .bool c]] w (.tuple #[.agg #[.int .i64 (wayX (R)), .int .i64 (wayK (R))], .bool (wayZ (R))]) := by
 exact qt1
theorem sGo_108 (s : ByteArray) (p n : Int) (v c : Bool) (w : World) (R : Int × Int × Bool)
  (HG : qH 205 #[.agg #[.string s, .int .i64 (p), .int .i64 (n), .bool v, .bool c], .int .u8 108] (.tuple #[.agg #[.int .i64 (wayX (R)), .int .i64 (wayK (R))], .bool (wayZ (R))])) :
  qC 169 #[.int .u8 108, .agg #[.string s, .int .i64 (p), .int .i64 (n), .bool v, .bool c]] w (.tuple #[.agg #[.int .i64 (wayX (R)), .int .i64 (wayK (R))], .bool (wayZ (R))]) := by
 exact qt1
theorem sGo_48 (s : ByteArray) (p n : Int) (v c : Bool) (w : World) (R : Int × Int × Bool)
  (HG : qH 205 #[.agg #[.string s, .int .i64 (p), .int .i64 (n), .bool v, .bool c], .int .u8 48] (.tuple #[.agg #[.int .i64 (wayX (R)), .int .i64 (wayK (R))], .bool (wayZ (R))])) :
  qC 169 #[.int .u8 48, .agg #[.string s, .int .i64 (p), .int .i64 (n), .bool v, .bool c]] w (.tuple #[.agg #[.int .i64 (wayX (R)), .int .i64 (wayK (R))], .bool (wayZ (R))]) := by
 exact qt1
theorem sGo_94 (s : ByteArray) (p n : Int) (v c : Bool) (w : World) (R : Int × Int × Bool)
  (HG : qH 205 #[.agg #[.string s, .int .i64 (p), .int .i64 (n), .bool v, .bool c], .int .u8 94] (.tuple #[.agg #[.int .i64 (wayX (R)), .int .i64 (wayK (R))], .bool (wayZ (R))])) :
  qC 169 #[.int .u8 94, .agg #[.string s, .int .i64 (p), .int .i64 (n), .bool v, .bool c]] w (.tuple #[.agg #[.int .i64 (wayX (R)), .int .i64 (wayK (R))], .bool (wayZ (R))]) := by
 exact qt1
theorem sGo_36 (s : ByteArray) (p n : Int) (v c : Bool) (w : World) (R : Int × Int × Bool)
  (HG : qH 205 #[.agg #[.string s, .int .i64 (p), .int .i64 (n), .bool v, .bool c], .int .u8 36] (.tuple #[.agg #[.int .i64 (wayX (R)), .int .i64 (wayK (R))], .bool (wayZ (R))])) :
  qC 169 #[.int .u8 36, .agg #[.string s, .int .i64 (p), .int .i64 (n), .bool v, .bool c]] w (.tuple #[.agg #[.int .i64 (wayX (R)), .int .i64 (wayK (R))], .bool (wayZ (R))]) := by
 exact qt1
theorem sGo_106 (s : ByteArray) (p n : Int) (v c : Bool) (w : World) (R : Int × Int × Bool)
  (HG : qH 206 #[.agg #[.string s, .int .i64 (p), .int .i64 (n), .bool v, .bool c], .int .u8 106] (.tuple #[.agg #[.int .i64 (wayX (R)), .int .i64 (wayK (R))], .bool (wayZ (R))])) :
  qC 169 #[.int .u8 106, .agg #[.string s, .int .i64 (p), .int .i64 (n), .bool v, .bool c]] w (.tuple #[.agg #[.int .i64 (wayX (R)), .int .i64 (wayK (R))], .bool (wayZ (R))]) := by
 exact qt1
theorem sGo_107 (s : ByteArray) (p n : Int) (v c : Bool) (w : World) (R : Int × Int × Bool)
  (HG : qH 206 #[.agg #[.string s, .int .i64 (p), .int .i64 (n), .bool v, .bool c], .int .u8 107] (.tuple #[.agg #[.int .i64 (wayX (R)), .int .i64 (wayK (R))], .bool (wayZ (R))])) :
  qC 169 #[.int .u8 107, .agg #[.string s, .int .i64 (p), .int .i64 (n), .bool v, .bool c]] w (.tuple #[.agg #[.int .i64 (wayX (R)), .int .i64 (wayK (R))], .bool (wayZ (R))]) := by
 exact qt1
theorem sGo_71 (s : ByteArray) (p n : Int) (v c : Bool) (w : World) (R : Int × Int × Bool)
  (HG : qH 207 #[.agg #[.string s, .int .i64 (p), .int .i64 (n), .bool v, .bool c], .int .u8 71] (.tuple #[.agg #[.int .i64 (wayX (R)), .int .i64 (wayK (R))], .bool (wayZ (R))])) :
  qC 169 #[.int .u8 71, .agg #[.string s, .int .i64 (p), .int .i64 (n), .bool v, .bool c]] w (.tuple #[.agg #[.int .i64 (wayX (R)), .int .i64 (wayK (R))], .bool (wayZ (R))]) := by
 exact qt1
theorem sGo_103 (s : ByteArray) (p n : Int) (v c : Bool) (w : World) (R : Int × Int × Bool)
  (HG : qH 207 #[.agg #[.string s, .int .i64 (p), .int .i64 (n), .bool v, .bool c], .int .u8 103] (.tuple #[.agg #[.int .i64 (wayX (R)), .int .i64 (wayK (R))], .bool (wayZ (R))])) :
  qC 169 #[.int .u8 103, .agg #[.string s, .int .i64 (p), .int .i64 (n), .bool v, .bool c]] w (.tuple #[.agg #[.int .i64 (wayX (R)), .int .i64 (wayK (R))], .bool (wayZ (R))]) := by
 exact qt1
theorem sGo_119 (s : ByteArray) (p n : Int) (v c : Bool) (w : World) (R : Int × Int × Bool)
  (HG : qH 208 #[.agg #[.string s, .int .i64 (p), .int .i64 (n), .bool v, .bool c], .bool false] (.tuple #[.agg #[.int .i64 (wayX (R)), .int .i64 (wayK (R))], .bool (wayZ (R))])) :
  qC 169 #[.int .u8 119, .agg #[.string s, .int .i64 (p), .int .i64 (n), .bool v, .bool c]] w (.tuple #[.agg #[.int .i64 (wayX (R)), .int .i64 (wayK (R))], .bool (wayZ (R))]) := by
 exact qt1
theorem sGo_87 (s : ByteArray) (p n : Int) (v c : Bool) (w : World) (R : Int × Int × Bool)
  (HG : qH 208 #[.agg #[.string s, .int .i64 (p), .int .i64 (n), .bool v, .bool c], .bool true] (.tuple #[.agg #[.int .i64 (wayX (R)), .int .i64 (wayK (R))], .bool (wayZ (R))])) :
  qC 169 #[.int .u8 87, .agg #[.string s, .int .i64 (p), .int .i64 (n), .bool v, .bool c]] w (.tuple #[.agg #[.int .i64 (wayX (R)), .int .i64 (wayK (R))], .bool (wayZ (R))]) := by
 exact qt1
theorem sGo_98 (s : ByteArray) (p n : Int) (v c : Bool) (w : World) (R : Int × Int × Bool)
  (HG : qH 209 #[.agg #[.string s, .int .i64 (p), .int .i64 (n), .bool v, .bool c], .bool false] (.tuple #[.agg #[.int .i64 (wayX (R)), .int .i64 (wayK (R))], .bool (wayZ (R))])) :
  qC 169 #[.int .u8 98, .agg #[.string s, .int .i64 (p), .int .i64 (n), .bool v, .bool c]] w (.tuple #[.agg #[.int .i64 (wayX (R)), .int .i64 (wayK (R))], .bool (wayZ (R))]) := by
 exact qt1
theorem sGo_66 (s : ByteArray) (p n : Int) (v c : Bool) (w : World) (R : Int × Int × Bool)
  (HG : qH 209 #[.agg #[.string s, .int .i64 (p), .int .i64 (n), .bool v, .bool c], .bool true] (.tuple #[.agg #[.int .i64 (wayX (R)), .int .i64 (wayK (R))], .bool (wayZ (R))])) :
  qC 169 #[.int .u8 66, .agg #[.string s, .int .i64 (p), .int .i64 (n), .bool v, .bool c]] w (.tuple #[.agg #[.int .i64 (wayX (R)), .int .i64 (wayK (R))], .bool (wayZ (R))]) := by
 exact qt1
theorem sGo_101 (s : ByteArray) (p n : Int) (v c : Bool) (w : World) (R : Int × Int × Bool)
  (HG : qH 210 #[.agg #[.string s, .int .i64 (p), .int .i64 (n), .bool v, .bool c], .bool false] (.tuple #[.agg #[.int .i64 (wayX (R)), .int .i64 (wayK (R))], .bool (wayZ (R))])) :
  qC 169 #[.int .u8 101, .agg #[.string s, .int .i64 (p), .int .i64 (n), .bool v, .bool c]] w (.tuple #[.agg #[.int .i64 (wayX (R)), .int .i64 (wayK (R))], .bool (wayZ (R))]) := by
 exact qt1
theorem sGo_69 (s : ByteArray) (p n : Int) (v c : Bool) (w : World) (R : Int × Int × Bool)
  (HG : qH 210 #[.agg #[.string s, .int .i64 (p), .int .i64 (n), .bool v, .bool c], .bool true] (.tuple #[.agg #[.int .i64 (wayX (R)), .int .i64 (wayK (R))], .bool (wayZ (R))])) :
  qC 169 #[.int .u8 69, .agg #[.string s, .int .i64 (p), .int .i64 (n), .bool v, .bool c]] w (.tuple #[.agg #[.int .i64 (wayX (R)), .int .i64 (wayK (R))], .bool (wayZ (R))]) := by
 exact qt1
theorem sGo_125 (s : ByteArray) (p n : Int) (v c : Bool) (w : World) (R : Int × Int × Bool)
  (HG : qH 211 #[.agg #[.string s, .int .i64 (p), .int .i64 (n), .bool v, .bool c], .int .i64 1] (.tuple #[.agg #[.int .i64 (wayX (R)), .int .i64 (wayK (R))], .bool (wayZ (R))])) :
  qC 169 #[.int .u8 125, .agg #[.string s, .int .i64 (p), .int .i64 (n), .bool v, .bool c]] w (.tuple #[.agg #[.int .i64 (wayX (R)), .int .i64 (wayK (R))], .bool (wayZ (R))]) := by
 exact qt1
theorem sGo_123 (s : ByteArray) (p n : Int) (v c : Bool) (w : World) (R : Int × Int × Bool)
  (HG : qH 211 #[.agg #[.string s, .int .i64 (p), .int .i64 (n), .bool v, .bool c], .int .i64 (-1)] (.tuple #[.agg #[.int .i64 (wayX (R)), .int .i64 (wayK (R))], .bool (wayZ (R))])) :
  qC 169 #[.int .u8 123, .agg #[.string s, .int .i64 (p), .int .i64 (n), .bool v, .bool c]] w (.tuple #[.agg #[.int .i64 (wayX (R)), .int .i64 (wayK (R))], .bool (wayZ (R))]) := by
 exact qt1
theorem sGo_37 (s : ByteArray) (p n : Int) (v c : Bool) (w : World) (R : Int × Int × Bool)
  (HG : qH 212 #[.agg #[.string s, .int .i64 (p), .int .i64 (n), .bool v, .bool c]] (.tuple #[.agg #[.int .i64 (wayX (R)), .int .i64 (wayK (R))], .bool (wayZ (R))])) :
  qC 169 #[.int .u8 37, .agg #[.string s, .int .i64 (p), .int .i64 (n), .bool v, .bool c]] w (.tuple #[.agg #[.int .i64 (wayX (R)), .int .i64 (wayK (R))], .bool (wayZ (R))]) := by
 exact qt1
