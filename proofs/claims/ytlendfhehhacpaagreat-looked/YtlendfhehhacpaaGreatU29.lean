/- A part. -/
import Derived.Test.YtlendfhehhacpaaGreatU26
import Derived.Test.YtlendfhehhacpaaGreatU22
import Derived.Deep.LoopGhost
set_option linter.unusedVariables false
set_option linter.unusedSimpArgs false
set_option maxRecDepth 100000
set_option maxHeartbeats 8000000
namespace Go.Proofs.YtlendfhehhacpaaGreat
open Go.RowKit Nib Tryz
def foI (o : Option Nat) : Int := ((o.getD 0 : Nat) : Int)
def foB (o : Option Nat) : Bool := o.isSome
theorem qt9 {P : Prop} (h : P := by
  clear FW cW T hBW a0 a1 a2 a3 a4 b0 b1 HO HL HN
  obtain ⟨i, m, hi1, hi2, hg, hm1, hm2, rfl, rfl, hu, F, cW, T, hB⟩ := hrel
  have a0 := F.c0; have a1 := F.c1; have al := F.lt
  have b0 := T.c0; have b1 := T.c1; have bl := T.lt
  have hBi : (B : Int) ≤ (i : Int) := by omega
  by_cases hlt : i < E
  ·have his : i < s.size := by omega
   have hltI : (i : Int) < (E : Int) := by omega
   by_cases hc : bt s i = ch
   ·have hcc : (((s[i]'his).toNat : Int) == ch) = true := by rw [← bt_in his]; simp [hc]
    by_cases hm : m = 1
    ·have HS : Hid (O = some i) := by
      rw [Hid, ← hu.out, show E - i = (E - (i + 1)) + 1 by omega]
      simp only [fndU]
      rw [if_pos hlt, if_pos hc, if_pos hm]
     subst hm
     clear hu hc
     go_wp2_with fail
     go_region
     go_wp2
     all_goals
      first
       | (exact qV (.tuple #[.int .i64 i, .bool true]) (by simp [results, results238, go_sem]) (by rw [HS.out]; rfl))
    ·have HS : Hid (fndU s ch E (E - (i + 1)) (m - 1) (i + 1) = O) := by
      rw [Hid, ← hu.out, show E - i = (E - (i + 1)) + 1 by omega]
      simp only [fndU]
      rw [if_pos hlt, if_pos hc, if_neg hm]
     have hm0 : (((m : Int) - 1) == 0) = false := by simp; omega
     clear hu hc
     go_wp2_with fail
     go_region
     go_wp2
     go_roundg (E + 1 - (i + 1))
     case measure => omega
     case rel => exact ⟨i + 1, m - 1, by omega, by omega, rfl, by omega, by omega, by congr 1; omega, by go_num, HS, F.drew, memLater ((Below.refl _ _).drew) cW, T.drew, hB.drew⟩
   ·have hcc : (((s[i]'his).toNat : Int) == ch) = false := by rw [← bt_in his]; simp [hc]
    have HS : Hid (fndU s ch E (E - (i + 1)) m (i + 1) = O) := by
     rw [Hid, ← hu.out, show E - i = (E - (i + 1)) + 1 by omega]
     simp only [fndU]
     rw [if_pos hlt, if_neg hc]
    have hm0 : ((m : Int) == 0) = false := by simp; omega
    clear hu hc
    go_wp2_with fail
    go_region
    go_wp2
    go_roundg (E + 1 - (i + 1))
    case measure => omega
    case rel => exact ⟨i + 1, m, by omega, by omega, rfl, by omega, by omega, rfl, by go_num, HS, F.drew, memLater ((Below.refl _ _).drew) cW, T.drew, hB.drew⟩
  ·have HS : Hid (O = none) := by
    rw [Hid, ← hu.out, show E - i = 0 by omega]
    rfl
   clear hu
   go_wp2
   all_goals
    first
     | (exact qV (.tuple #[.int .i64 0, .bool false]) (by simp [results, results238, go_sem]) (by rw [HS.out]; rfl))
 ) : P := h
theorem qt39 {P : Prop} (h : P := by
  refine Two.set1 (Two.set0 (x := 0) (y := 0) (Two.below (Two.below (Two.drew ?_) h1) h2) _) _
  have := Two.new ((w.alloc (.cells #[.int .u8 key, .int .u8 ch] 95)).alloc (.cells #[.string s, .int .i64 (p), .int .i64 (n), .bool v, .bool c] 206)) 0 0 128
  simpa using this
 ) : P := h
theorem sSeek_up (s : ByteArray) (p n fr : Nat) (v c : Bool) (key ch : Int) (w : World) (hs : s.size ≤ 1000) (hp : p ≤ s.size) (hn : n ≤ 99) (hfr : fr ≤ 2) (hfr1 : 1 ≤ fr) :
  qC 238 #[.agg #[.int .u8 key, .int .u8 ch], .agg #[.string s, .int .i64 (p), .int .i64 (n), .bool v, .bool c], .int .i64 fr, .int .i64 1] w (.tuple #[.int .i64 (foI (fndU s ch (fin s p) (fin s p - (p + fr)) (max n 1) (p + fr))), .bool (foB (fndU s ch (fin s p) (fin s p - (p + fr)) (max n 1) (p + fr)))]) := by
 have HL : qH 239 #[.agg #[.string s, .int .i64 (p), .int .i64 (n), .bool v, .bool c]] (.agg #[.int .i64 (beg s p), .int .i64 (fin s p)]) := fun ww => sLine_any s p n v c p ww hs rfl hp
 have HN : qH 241 #[.agg #[.string s, .int .i64 (p), .int .i64 (n), .bool v, .bool c]] (.int .i64 ((max n 1 : Nat) : Int)) := by
  exact qt26
 have hN1 : 1 ≤ max n 1 := by omega
 have hN2 : max n 1 ≤ 99 := by omega
 generalize max n 1 = N at *
 generalize hO : fndU s ch (fin s p) (fin s p - (p + fr)) N (p + fr) = O
 have HO : Hid (fndU s ch (fin s p) (fin s p - (p + fr)) N (p + fr) = O) := hO
 clear hO
 have hb := beg_le s p
 have hfl := fin_le hp
 have hfg := fin_ge s p
 generalize beg s p = B at *
 generalize fin s p = E at *
 go_enter func238, ntmps238
 have F : Five (((w.alloc (.cells #[.int .u8 key, .int .u8 ch] 95)).alloc (.cells #[.string s, .int .i64 (p), .int .i64 (n), .bool v, .bool c] 206))) (w.heap.size + 1) s p n v c := by have := Five.new (w.alloc (.cells #[.int .u8 key, .int .u8 ch] 95)) s p n v c 206; simpa using this
 have s0 := F.c0; have s1 := F.c1; have s2 := F.c2; have s3 := F.c3; have s4 := F.c4
 have s5 : (((w.alloc (.cells #[.int .u8 key, .int .u8 ch] 95)).alloc (.cells #[.string s, .int .i64 (p), .int .i64 (n), .bool v, .bool c] 206))).cell? ⟨w.heap.size, 0, none⟩ = some (.int .u8 key) := by simp
 have s6 : (((w.alloc (.cells #[.int .u8 key, .int .u8 ch] 95)).alloc (.cells #[.string s, .int .i64 (p), .int .i64 (n), .bool v, .bool c] 206))).cell? ⟨w.heap.size, 1, none⟩ = some (.int .u8 ch) := by simp
 go_wp2_with fail
 go_region_held3 (fun ww => ww.cell? ⟨w.heap.size + 1, 0, none⟩ = some (.string s) ∧ ww.cell? ⟨w.heap.size + 1, 1, none⟩ = some (.int .i64 p) ∧ ww.cell? ⟨w.heap.size + 1, 2, none⟩ = some (.int .i64 n) ∧ ww.cell? ⟨w.heap.size + 1, 3, none⟩ = some (.bool v) ∧ ww.cell? ⟨w.heap.size + 1, 4, none⟩ = some (.bool c) ∧ ww.cell? ⟨w.heap.size, 0, none⟩ = some (.int .u8 key) ∧ ww.cell? ⟨w.heap.size, 1, none⟩ = some (.int .u8 ch)) ((refine ⟨?_, ?_, ?_, ?_, ?_, ?_, ?_⟩ <;> (first | ((repeat exact qM); done) | (go_simp; done)))) (first | (go_at_call 239; refine (HL.out _).mono ?_; rintro r1 w1 ⟨rfl, h1⟩; obtain ⟨hc1, hf1, hz1⟩ := qb h1; (try simp at hz1); (try have ⟨hl1_0, hk1_0⟩ := qL w.heap.size w1.heap.size); (try have ⟨hl1_1, hk1_1⟩ := qL (w.heap.size + 1) w1.heap.size); (try have ⟨hl1_2, hk1_2⟩ := qL (w.heap.size + 1 + 1) w1.heap.size); (try have ⟨hl1_3, hk1_3⟩ := qL w1.heap.size w1.heap.size)) | (go_at_call 241; refine (HN.out _).mono ?_; rintro r2 w2 ⟨rfl, h2⟩; obtain ⟨hc2, hf2, hz2⟩ := qb h2; (try simp at hz2); (try have ⟨hl2_0, hk2_0⟩ := qL w.heap.size w2.heap.size); (try have ⟨hl2_1, hk2_1⟩ := qL (w.heap.size + 1) w2.heap.size); (try have ⟨hl2_2, hk2_2⟩ := qL (w.heap.size + 1 + 1) w2.heap.size); (try have ⟨hl2_3, hk2_3⟩ := qL w1.heap.size w2.heap.size)))
 ·have T : Two (w2.alloc (.cells #[.int .i64 B, .int .i64 E] 128)) (w2.heap.size) B E := Two.new _ _ _ _
  clear hc1 hf1 hc2 hf2
  have FW : Five (w2.alloc (.cells #[.int .i64 B, .int .i64 E] 128)) (w.heap.size + 1) s p n v c := by
   repeat exact qF
  have cW : (w2.alloc (.cells #[.int .i64 B, .int .i64 E] 128)).cell? ⟨w.heap.size, 1, none⟩ = some (.int .u8 ch) := by
   (repeat exact qM)
  have hBW : Below w.heap.size w (w2.alloc (.cells #[.int .i64 B, .int .i64 E] 128)) := by
   repeat exact qB
  clear F h1 h2 s0 s1 s2 s3 s4 s5 s6
  have a0 := FW.c0; have a1 := FW.c1; have a2 := FW.c2; have a3 := FW.c3; have a4 := FW.c4
  have b0 := T.c0; have b1 := T.c1
  go_wp2
  go_loopg [11, 12] (E + 1 - (p + fr)) (fun g lf pl wr => ∃ i m : Nat, p + fr ≤ i ∧ i ≤ 1100 ∧ g = E + 1 - i ∧ 1 ≤ m ∧ m ≤ 99 ∧ lf = .int .i64 m ∧ pl = .int .i64 i ∧ Hid (fndU s ch E (E - i) m i = O) ∧ Five wr (w.heap.size + 1) s p n v c ∧ wr.cell? ⟨w.heap.size, 1, none⟩ = some (.int .u8 ch) ∧ Two wr (w2.heap.size) B E ∧ Below w.heap.size w wr)
  case atStart => exact ⟨p + fr, N, Nat.le_refl _, by omega, rfl, hN1, hN2, rfl, by go_num, HO, FW, cW, T, hBW⟩
  case round =>
   exact qt9
 ·have T : Two ((w2.setCell ⟨w1.heap.size, 0, none⟩ (.int .i64 B)).setCell ⟨w1.heap.size, 1, none⟩ (.int .i64 E)) (w1.heap.size) B E := Two.set1 (Two.set0 (Two.below (Two.new _ 0 0 _) h2) _) _
  clear hc1 hf1 hc2 hf2
  have FW : Five ((w2.setCell ⟨w1.heap.size, 0, none⟩ (.int .i64 B)).setCell ⟨w1.heap.size, 1, none⟩ (.int .i64 E)) (w.heap.size + 1) s p n v c := by
   repeat exact qF
  have cW : ((w2.setCell ⟨w1.heap.size, 0, none⟩ (.int .i64 B)).setCell ⟨w1.heap.size, 1, none⟩ (.int .i64 E)).cell? ⟨w.heap.size, 1, none⟩ = some (.int .u8 ch) := by
   (repeat exact qM)
  have hBW : Below w.heap.size w ((w2.setCell ⟨w1.heap.size, 0, none⟩ (.int .i64 B)).setCell ⟨w1.heap.size, 1, none⟩ (.int .i64 E)) := by
   repeat exact qB
  clear F h1 h2 s0 s1 s2 s3 s4 s5 s6
  have a0 := FW.c0; have a1 := FW.c1; have a2 := FW.c2; have a3 := FW.c3; have a4 := FW.c4
  have b0 := T.c0; have b1 := T.c1
  go_wp2
  go_loopg [11, 12] (E + 1 - (p + fr)) (fun g lf pl wr => ∃ i m : Nat, p + fr ≤ i ∧ i ≤ 1100 ∧ g = E + 1 - i ∧ 1 ≤ m ∧ m ≤ 99 ∧ lf = .int .i64 m ∧ pl = .int .i64 i ∧ Hid (fndU s ch E (E - i) m i = O) ∧ Five wr (w.heap.size + 1) s p n v c ∧ wr.cell? ⟨w.heap.size, 1, none⟩ = some (.int .u8 ch) ∧ Two wr (w1.heap.size) B E ∧ Below w.heap.size w wr)
  case atStart => exact ⟨p + fr, N, Nat.le_refl _, by omega, rfl, hN1, hN2, rfl, by go_num, HO, FW, cW, T, hBW⟩
  case round =>
   exact qt9
 ·have T : Two ((w2.setCell ⟨w.heap.size + 1 + 1, 0, none⟩ (.int .i64 B)).setCell ⟨w.heap.size + 1 + 1, 1, none⟩ (.int .i64 E)) (w.heap.size + 1 + 1) B E := by
   exact qt39
  clear hc1 hf1 hc2 hf2
  have FW : Five ((w2.setCell ⟨w.heap.size + 1 + 1, 0, none⟩ (.int .i64 B)).setCell ⟨w.heap.size + 1 + 1, 1, none⟩ (.int .i64 E)) (w.heap.size + 1) s p n v c := by
   repeat exact qF
  have cW : ((w2.setCell ⟨w.heap.size + 1 + 1, 0, none⟩ (.int .i64 B)).setCell ⟨w.heap.size + 1 + 1, 1, none⟩ (.int .i64 E)).cell? ⟨w.heap.size, 1, none⟩ = some (.int .u8 ch) := by
   (repeat exact qM)
  have hBW : Below w.heap.size w ((w2.setCell ⟨w.heap.size + 1 + 1, 0, none⟩ (.int .i64 B)).setCell ⟨w.heap.size + 1 + 1, 1, none⟩ (.int .i64 E)) := by
   repeat exact qB
  clear F h1 h2 s0 s1 s2 s3 s4 s5 s6
  have a0 := FW.c0; have a1 := FW.c1; have a2 := FW.c2; have a3 := FW.c3; have a4 := FW.c4
  have b0 := T.c0; have b1 := T.c1
  go_wp2
  go_loopg [11, 12] (E + 1 - (p + fr)) (fun g lf pl wr => ∃ i m : Nat, p + fr ≤ i ∧ i ≤ 1100 ∧ g = E + 1 - i ∧ 1 ≤ m ∧ m ≤ 99 ∧ lf = .int .i64 m ∧ pl = .int .i64 i ∧ Hid (fndU s ch E (E - i) m i = O) ∧ Five wr (w.heap.size + 1) s p n v c ∧ wr.cell? ⟨w.heap.size, 1, none⟩ = some (.int .u8 ch) ∧ Two wr (w.heap.size + 1 + 1) B E ∧ Below w.heap.size w wr)
  case atStart => exact ⟨p + fr, N, Nat.le_refl _, by omega, rfl, hN1, hN2, rfl, by go_num, HO, FW, cW, T, hBW⟩
  case round =>
   exact qt9
theorem qt5 {P : Prop} (h : P := by
  clear FW cW T hBW a0 a1 a2 a3 a4 b0 b1 HO HL HN
  obtain ⟨i, m, hi1, hi2, hg, hm1, hm2, rfl, rfl, hu, F, cW, T, hB⟩ := hrel
  have a0 := F.c0; have a1 := F.c1; have al := F.lt
  have b0 := T.c0; have b1 := T.c1; have bl := T.lt
  by_cases hlt : (B : Int) ≤ i
  ·obtain ⟨i, rfl⟩ := Int.eq_ofNat_of_zero_le (show 0 ≤ i by omega)
   have his : i < s.size := by omega
   have hltI : (i : Int) < (E : Int) := by omega
   have e1 : ((i : Int) + 1).toNat = i + 1 := by omega
   have e2 : ((i : Int) - 1 + 1).toNat = i := by omega
   have hBn : B ≤ i := by omega
   by_cases hc : bt s i = ch
   ·have hcc : (((s[i]'his).toNat : Int) == ch) = true := by rw [← bt_in his]; simp [hc]
    by_cases hm : m = 1
    ·have HS : Hid (O = some i) := by
      rw [Hid, ← hu.out, e1]
      simp only [fndD]
      rw [if_pos hBn, if_pos hc, if_pos hm]
     subst hm
     clear hu hc e1 e2
     go_wp2_with fail
     go_region
     go_wp2
     all_goals
      first
       | (exact qV (.tuple #[.int .i64 i, .bool true]) (by simp [results, results238, go_sem]) (by rw [HS.out]; rfl))
    ·have HS : Hid (fndD s ch B (m - 1) ((i : Int) - 1 + 1).toNat = O) := by
      rw [Hid, ← hu.out, e1, e2]
      simp only [fndD]
      rw [if_pos hBn, if_pos hc, if_neg hm]
     have hm0 : (((m : Int) - 1) == 0) = false := by simp; omega
     clear hu hc e1 e2
     go_wp2_with fail
     go_region
     go_wp2
     go_roundg ((i : Int) - 1 + 3).toNat
     case measure => omega
     case rel => exact ⟨(i : Int) - 1, m - 1, by omega, by omega, rfl, by omega, by omega, by first | rfl | (congr 1; omega), by first | rfl | (congr 1; omega), HS, F.drew, memLater ((Below.refl _ _).drew) cW, T.drew, hB.drew⟩
   ·have hcc : (((s[i]'his).toNat : Int) == ch) = false := by rw [← bt_in his]; simp [hc]
    have HS : Hid (fndD s ch B m ((i : Int) - 1 + 1).toNat = O) := by
     rw [Hid, ← hu.out, e1, e2]
     simp only [fndD]
     rw [if_pos hBn, if_neg hc]
    have hm0 : ((m : Int) == 0) = false := by simp; omega
    clear hu hc e1 e2
    go_wp2_with fail
    go_region
    go_wp2
    go_roundg ((i : Int) - 1 + 3).toNat
    case measure => omega
    case rel => exact ⟨(i : Int) - 1, m, by omega, by omega, rfl, by omega, by omega, rfl, by first | rfl | (congr 1; omega), HS, F.drew, memLater ((Below.refl _ _).drew) cW, T.drew, hB.drew⟩
  ·have HS : Hid (O = none) := by
    rw [Hid, ← hu.out]
    cases hq : (i + 1).toNat with
    | zero => rfl
    | succ j => simp only [fndD]; rw [if_neg qo]
   clear hu
   go_wp2
   all_goals
    first
     | (exact qV (.tuple #[.int .i64 0, .bool false]) (by simp [results, results238, go_sem]) (by rw [HS.out]; rfl))
 ) : P := h
theorem sSeek_down (s : ByteArray) (p n fr : Nat) (v c : Bool) (key ch : Int) (w : World) (hs : s.size ≤ 1000) (hp : p ≤ s.size) (hn : n ≤ 99) (hfr : fr ≤ 2) (hfr1 : 1 ≤ fr) :
  qC 238 #[.agg #[.int .u8 key, .int .u8 ch], .agg #[.string s, .int .i64 (p), .int .i64 (n), .bool v, .bool c], .int .i64 fr, .int .i64 (-1)] w (.tuple #[.int .i64 (foI (fndD s ch (beg s p) (max n 1) (p + 1 - fr))), .bool (foB (fndD s ch (beg s p) (max n 1) (p + 1 - fr)))]) := by
 have HL : qH 239 #[.agg #[.string s, .int .i64 (p), .int .i64 (n), .bool v, .bool c]] (.agg #[.int .i64 (beg s p), .int .i64 (fin s p)]) := fun ww => sLine_any s p n v c p ww hs rfl hp
 have HN : qH 241 #[.agg #[.string s, .int .i64 (p), .int .i64 (n), .bool v, .bool c]] (.int .i64 ((max n 1 : Nat) : Int)) := by
  exact qt26
 have hN1 : 1 ≤ max n 1 := by omega
 have hN2 : max n 1 ≤ 99 := by omega
 generalize max n 1 = N at *
 generalize hO : fndD s ch (beg s p) N (p + 1 - fr) = O
 have HO : Hid (fndD s ch (beg s p) N (p + 1 - fr) = O) := hO
 clear hO
 have hb := beg_le s p
 have hfl := fin_le hp
 have hfg := fin_ge s p
 generalize beg s p = B at *
 generalize fin s p = E at *
 go_enter func238, ntmps238
 have F : Five (((w.alloc (.cells #[.int .u8 key, .int .u8 ch] 95)).alloc (.cells #[.string s, .int .i64 (p), .int .i64 (n), .bool v, .bool c] 206))) (w.heap.size + 1) s p n v c := by have := Five.new (w.alloc (.cells #[.int .u8 key, .int .u8 ch] 95)) s p n v c 206; simpa using this
 have s0 := F.c0; have s1 := F.c1; have s2 := F.c2; have s3 := F.c3; have s4 := F.c4
 have s5 : (((w.alloc (.cells #[.int .u8 key, .int .u8 ch] 95)).alloc (.cells #[.string s, .int .i64 (p), .int .i64 (n), .bool v, .bool c] 206))).cell? ⟨w.heap.size, 0, none⟩ = some (.int .u8 key) := by simp
 have s6 : (((w.alloc (.cells #[.int .u8 key, .int .u8 ch] 95)).alloc (.cells #[.string s, .int .i64 (p), .int .i64 (n), .bool v, .bool c] 206))).cell? ⟨w.heap.size, 1, none⟩ = some (.int .u8 ch) := by simp
 go_wp2_with fail
 go_region_held3 (fun ww => ww.cell? ⟨w.heap.size + 1, 0, none⟩ = some (.string s) ∧ ww.cell? ⟨w.heap.size + 1, 1, none⟩ = some (.int .i64 p) ∧ ww.cell? ⟨w.heap.size + 1, 2, none⟩ = some (.int .i64 n) ∧ ww.cell? ⟨w.heap.size + 1, 3, none⟩ = some (.bool v) ∧ ww.cell? ⟨w.heap.size + 1, 4, none⟩ = some (.bool c) ∧ ww.cell? ⟨w.heap.size, 0, none⟩ = some (.int .u8 key) ∧ ww.cell? ⟨w.heap.size, 1, none⟩ = some (.int .u8 ch)) ((refine ⟨?_, ?_, ?_, ?_, ?_, ?_, ?_⟩ <;> (first | ((repeat exact qM); done) | (go_simp; done)))) (first | (go_at_call 239; refine (HL.out _).mono ?_; rintro r1 w1 ⟨rfl, h1⟩; obtain ⟨hc1, hf1, hz1⟩ := qb h1; (try simp at hz1); (try have ⟨hl1_0, hk1_0⟩ := qL w.heap.size w1.heap.size); (try have ⟨hl1_1, hk1_1⟩ := qL (w.heap.size + 1) w1.heap.size); (try have ⟨hl1_2, hk1_2⟩ := qL (w.heap.size + 1 + 1) w1.heap.size); (try have ⟨hl1_3, hk1_3⟩ := qL w1.heap.size w1.heap.size)) | (go_at_call 241; refine (HN.out _).mono ?_; rintro r2 w2 ⟨rfl, h2⟩; obtain ⟨hc2, hf2, hz2⟩ := qb h2; (try simp at hz2); (try have ⟨hl2_0, hk2_0⟩ := qL w.heap.size w2.heap.size); (try have ⟨hl2_1, hk2_1⟩ := qL (w.heap.size + 1) w2.heap.size); (try have ⟨hl2_2, hk2_2⟩ := qL (w.heap.size + 1 + 1) w2.heap.size); (try have ⟨hl2_3, hk2_3⟩ := qL w1.heap.size w2.heap.size)))
 ·have T : Two (w2.alloc (.cells #[.int .i64 B, .int .i64 E] 128)) (w2.heap.size) B E := Two.new _ _ _ _
  clear hc1 hf1 hc2 hf2
  have FW : Five (w2.alloc (.cells #[.int .i64 B, .int .i64 E] 128)) (w.heap.size + 1) s p n v c := by
   repeat exact qF
  have cW : (w2.alloc (.cells #[.int .i64 B, .int .i64 E] 128)).cell? ⟨w.heap.size, 1, none⟩ = some (.int .u8 ch) := by
   (repeat exact qM)
  have hBW : Below w.heap.size w (w2.alloc (.cells #[.int .i64 B, .int .i64 E] 128)) := by
   repeat exact qB
  clear F h1 h2 s0 s1 s2 s3 s4 s5 s6
  have a0 := FW.c0; have a1 := FW.c1; have a2 := FW.c2; have a3 := FW.c3; have a4 := FW.c4
  have b0 := T.c0; have b1 := T.c1
  go_wp2
  go_loopg [11, 12] ((p : Int) - fr + 3).toNat (fun g lf pl wr => ∃ (i : Int) (m : Nat), -2 ≤ i ∧ i < p ∧ g = (i + 3).toNat ∧ 1 ≤ m ∧ m ≤ 99 ∧ lf = .int .i64 m ∧ pl = .int .i64 i ∧ Hid (fndD s ch B m (i + 1).toNat = O) ∧ Five wr (w.heap.size + 1) s p n v c ∧ wr.cell? ⟨w.heap.size, 1, none⟩ = some (.int .u8 ch) ∧ Two wr (w2.heap.size) B E ∧ Below w.heap.size w wr)
  case atStart => exact ⟨(p : Int) - fr, N, by omega, by omega, rfl, hN1, hN2, rfl, by first | rfl | (congr 1; omega), by rw [Hid, ← HO.out]; congr 1; omega, FW, cW, T, hBW⟩
  case round =>
   exact qt5
 ·have T : Two ((w2.setCell ⟨w1.heap.size, 0, none⟩ (.int .i64 B)).setCell ⟨w1.heap.size, 1, none⟩ (.int .i64 E)) (w1.heap.size) B E := Two.set1 (Two.set0 (Two.below (Two.new _ 0 0 _) h2) _) _
  clear hc1 hf1 hc2 hf2
  have FW : Five ((w2.setCell ⟨w1.heap.size, 0, none⟩ (.int .i64 B)).setCell ⟨w1.heap.size, 1, none⟩ (.int .i64 E)) (w.heap.size + 1) s p n v c := by
   repeat exact qF
  have cW : ((w2.setCell ⟨w1.heap.size, 0, none⟩ (.int .i64 B)).setCell ⟨w1.heap.size, 1, none⟩ (.int .i64 E)).cell? ⟨w.heap.size, 1, none⟩ = some (.int .u8 ch) := by
   (repeat exact qM)
  have hBW : Below w.heap.size w ((w2.setCell ⟨w1.heap.size, 0, none⟩ (.int .i64 B)).setCell ⟨w1.heap.size, 1, none⟩ (.int .i64 E)) := by
   repeat exact qB
  clear F h1 h2 s0 s1 s2 s3 s4 s5 s6
  have a0 := FW.c0; have a1 := FW.c1; have a2 := FW.c2; have a3 := FW.c3; have a4 := FW.c4
  have b0 := T.c0; have b1 := T.c1
  go_wp2
  go_loopg [11, 12] ((p : Int) - fr + 3).toNat (fun g lf pl wr => ∃ (i : Int) (m : Nat), -2 ≤ i ∧ i < p ∧ g = (i + 3).toNat ∧ 1 ≤ m ∧ m ≤ 99 ∧ lf = .int .i64 m ∧ pl = .int .i64 i ∧ Hid (fndD s ch B m (i + 1).toNat = O) ∧ Five wr (w.heap.size + 1) s p n v c ∧ wr.cell? ⟨w.heap.size, 1, none⟩ = some (.int .u8 ch) ∧ Two wr (w1.heap.size) B E ∧ Below w.heap.size w wr)
  case atStart => exact ⟨(p : Int) - fr, N, by omega, by omega, rfl, hN1, hN2, rfl, by first | rfl | (congr 1; omega), by rw [Hid, ← HO.out]; congr 1; omega, FW, cW, T, hBW⟩
  case round =>
   exact qt5
 ·have T : Two ((w2.setCell ⟨w.heap.size + 1 + 1, 0, none⟩ (.int .i64 B)).setCell ⟨w.heap.size + 1 + 1, 1, none⟩ (.int .i64 E)) (w.heap.size + 1 + 1) B E := by
   exact qt39
  clear hc1 hf1 hc2 hf2
  have FW : Five ((w2.setCell ⟨w.heap.size + 1 + 1, 0, none⟩ (.int .i64 B)).setCell ⟨w.heap.size + 1 + 1, 1, none⟩ (.int .i64 E)) (w.heap.size + 1) s p n v c := by
   repeat exact qF
  have cW : ((w2.setCell ⟨w.heap.size + 1 + 1, 0, none⟩ (.int .i64 B)).setCell ⟨w.heap.size + 1 + 1, 1, none⟩ (.int .i64 E)).cell? ⟨w.heap.size, 1, none⟩ = some (.int .u8 ch) := by
   (repeat exact qM)
  have hBW : Below w.heap.size w ((w2.setCell ⟨w.heap.size + 1 + 1, 0, none⟩ (.int .i64 B)).setCell ⟨w.heap.size + 1 + 1, 1, none⟩ (.int .i64 E)) := by
   repeat exact qB
  clear F h1 h2 s0 s1 s2 s3 s4 s5 s6
  have a0 := FW.c0; have a1 := FW.c1; have a2 := FW.c2; have a3 := FW.c3; have a4 := FW.c4
  have b0 := T.c0; have b1 := T.c1
  go_wp2
  go_loopg [11, 12] ((p : Int) - fr + 3).toNat (fun g lf pl wr => ∃ (i : Int) (m : Nat), -2 ≤ i ∧ i < p ∧ g = (i + 3).toNat ∧ 1 ≤ m ∧ m ≤ 99 ∧ lf = .int .i64 m ∧ pl = .int .i64 i ∧ Hid (fndD s ch B m (i + 1).toNat = O) ∧ Five wr (w.heap.size + 1) s p n v c ∧ wr.cell? ⟨w.heap.size, 1, none⟩ = some (.int .u8 ch) ∧ Two wr (w.heap.size + 1 + 1) B E ∧ Below w.heap.size w wr)
  case atStart => exact ⟨(p : Int) - fr, N, by omega, by omega, rfl, hN1, hN2, rfl, by first | rfl | (congr 1; omega), by rw [Hid, ← HO.out]; congr 1; omega, FW, cW, T, hBW⟩
  case round =>
   exact qt5
