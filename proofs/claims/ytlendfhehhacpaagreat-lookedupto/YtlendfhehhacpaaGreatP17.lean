/- Joined of the texts WaysN. -/
import Derived.Test.YtlendfhehhacpaaGreatP16
import Derived.Test.YtlendfhehhacpaaGreatP03
import Derived.Deep.LoopGhost
set_option linter.unusedVariables false
set_option linter.unusedSimpArgs false
set_option maxRecDepth 100000
set_option maxHeartbeats 8000000
namespace Go.Proofs.YtlendfhehhacpaaGreat
open Go.RowKit
def foI (o : Option Nat) : Int := ((o.getD 0 : Nat) : Int)
def foB (o : Option Nat) : Bool := o.isSome
theorem sSeek_up (s : ByteArray) (p n fr : Nat) (v c : Bool) (key ch : Int) (w : World) (hs : s.size ≤ 1000) (hp : p ≤ s.size) (hn : n ≤ 99) (hfr : fr ≤ 2) (hfr1 : 1 ≤ fr) :
    Calls Tryz.prog 238 #[.agg #[.int .u8 key, .int .u8 ch], .agg #[.string s, .int .i64 (p), .int .i64 (n), .bool v, .bool c], .int .i64 fr, .int .i64 1] w fun e w' => e = .returned (.tuple #[.int .i64 (foI (Nib.fndU s ch (Nib.fin s p) (Nib.fin s p - (p + fr)) (max n 1) (p + fr))), .bool (foB (Nib.fndU s ch (Nib.fin s p) (Nib.fin s p - (p + fr)) (max n 1) (p + fr)))]) ∧ Below w.heap.size w w' := by
  have HL : Hid (∀ ww, Calls Tryz.prog 239 #[.agg #[.string s, .int .i64 (p), .int .i64 (n), .bool v, .bool c]] ww fun e w' => e = .returned (.agg #[.int .i64 (Nib.beg s p), .int .i64 (Nib.fin s p)]) ∧ Below ww.heap.size ww w') := fun ww => sLine_any s p n v c p ww hs rfl hp
  have HN : Hid (∀ ww, Calls Tryz.prog 241 #[.agg #[.string s, .int .i64 (p), .int .i64 (n), .bool v, .bool c]] ww fun e w' => e = .returned (.int .i64 ((max n 1 : Nat) : Int)) ∧ Below ww.heap.size ww w') := by
    intro ww
    have := sNumber_any s p n v c ww
    rw [show max (n : Int) 1 = ((max n 1 : Nat) : Int) by omega] at this
    exact this
  have hN1 : 1 ≤ max n 1 := by omega
  have hN2 : max n 1 ≤ 99 := by omega
  generalize max n 1 = N at *
  generalize hO : Nib.fndU s ch (Nib.fin s p) (Nib.fin s p - (p + fr)) N (p + fr) = O
  have HO : Hid (Nib.fndU s ch (Nib.fin s p) (Nib.fin s p - (p + fr)) N (p + fr) = O) := hO
  clear hO
  have hb := Nib.beg_le s p
  have hfl := Nib.fin_le hp
  have hfg := Nib.fin_ge s p
  generalize Nib.beg s p = B at *
  generalize Nib.fin s p = E at *
  go_enter Tryz.func238, Tryz.ntmps238
  have F : Five (((w.alloc (.cells #[.int .u8 key, .int .u8 ch] 95)).alloc (.cells #[.string s, .int .i64 (p), .int .i64 (n), .bool v, .bool c] 206))) (w.heap.size + 1) s p n v c := by have := Five.new (w.alloc (.cells #[.int .u8 key, .int .u8 ch] 95)) s p n v c 206; simpa using this
  have s0 := F.c0; have s1 := F.c1; have s2 := F.c2; have s3 := F.c3; have s4 := F.c4
  have s5 : (((w.alloc (.cells #[.int .u8 key, .int .u8 ch] 95)).alloc (.cells #[.string s, .int .i64 (p), .int .i64 (n), .bool v, .bool c] 206))).cell? ⟨w.heap.size, 0, none⟩ = some (.int .u8 key) := by simp
  have s6 : (((w.alloc (.cells #[.int .u8 key, .int .u8 ch] 95)).alloc (.cells #[.string s, .int .i64 (p), .int .i64 (n), .bool v, .bool c] 206))).cell? ⟨w.heap.size, 1, none⟩ = some (.int .u8 ch) := by simp
  go_wp2_with fail
  go_region_held3 (fun ww => ww.cell? ⟨w.heap.size + 1, 0, none⟩ = some (.string s) ∧ ww.cell? ⟨w.heap.size + 1, 1, none⟩ = some (.int .i64 p) ∧ ww.cell? ⟨w.heap.size + 1, 2, none⟩ = some (.int .i64 n) ∧ ww.cell? ⟨w.heap.size + 1, 3, none⟩ = some (.bool v) ∧ ww.cell? ⟨w.heap.size + 1, 4, none⟩ = some (.bool c) ∧ ww.cell? ⟨w.heap.size, 0, none⟩ = some (.int .u8 key) ∧ ww.cell? ⟨w.heap.size, 1, none⟩ = some (.int .u8 ch)) ((refine ⟨?_, ?_, ?_, ?_, ?_, ?_, ?_⟩ <;> (first | ((repeat (first | with_reducible assumption | (with_reducible refine memLater ((Below.refl _ _).alloc (Nat.le_refl _) _) ?_) | (with_reducible refine memLater ((Below.refl _ _).drew) ?_) | (with_reducible refine memLater h1 ?_) | (with_reducible refine memLater h2 ?_) | (with_reducible refine (memSet (by omega)).trans ?_))); done) | (go_simp; done)))) (first | (go_at_call 239; refine (HL.out _).mono ?_; rintro r1 w1 ⟨rfl, h1⟩; obtain ⟨hc1, hf1⟩ := bcell h1; have hz1 := h1.size; (try simp at hz1); (try have hl1_0 : w.heap.size < w1.heap.size := (by omega)); (try have hk1_0 : w.heap.size < w1.heap.size + 1 := (by omega)); (try have hl1_1 : w.heap.size + 1 < w1.heap.size := (by omega)); (try have hk1_1 : w.heap.size + 1 < w1.heap.size + 1 := (by omega)); (try have hl1_2 : w.heap.size + 1 + 1 < w1.heap.size := (by omega)); (try have hk1_2 : w.heap.size + 1 + 1 < w1.heap.size + 1 := (by omega)); (try have hl1_3 : w1.heap.size < w1.heap.size := (by omega)); (try have hk1_3 : w1.heap.size < w1.heap.size + 1 := (by omega))) | (go_at_call 241; refine (HN.out _).mono ?_; rintro r2 w2 ⟨rfl, h2⟩; obtain ⟨hc2, hf2⟩ := bcell h2; have hz2 := h2.size; (try simp at hz2); (try have hl2_0 : w.heap.size < w2.heap.size := (by omega)); (try have hk2_0 : w.heap.size < w2.heap.size + 1 := (by omega)); (try have hl2_1 : w.heap.size + 1 < w2.heap.size := (by omega)); (try have hk2_1 : w.heap.size + 1 < w2.heap.size + 1 := (by omega)); (try have hl2_2 : w.heap.size + 1 + 1 < w2.heap.size := (by omega)); (try have hk2_2 : w.heap.size + 1 + 1 < w2.heap.size + 1 := (by omega)); (try have hl2_3 : w1.heap.size < w2.heap.size := (by omega)); (try have hk2_3 : w1.heap.size < w2.heap.size + 1 := (by omega))))
  · have T : Two (w2.alloc (.cells #[.int .i64 B, .int .i64 E] 128)) (w2.heap.size) B E := Two.new _ _ _ _
    clear hc1 hf1 hc2 hf2
    have FW : Five (w2.alloc (.cells #[.int .i64 B, .int .i64 E] 128)) (w.heap.size + 1) s p n v c := by
      repeat (with_reducible first | exact F | refine f_o ?_ _ | refine Five.alloc ?_ _ | refine Five.drewN ?_ _ | refine Five.drew ?_ | refine Five.below ?_ h2 | refine Five.below ?_ h1)
    have cW : (w2.alloc (.cells #[.int .i64 B, .int .i64 E] 128)).cell? ⟨w.heap.size, 1, none⟩ = some (.int .u8 ch) := by
      (repeat (first | with_reducible assumption | (with_reducible refine memLater ((Below.refl _ _).alloc (Nat.le_refl _) _) ?_) | (with_reducible refine memLater ((Below.refl _ _).drew) ?_) | (with_reducible refine memLater h2 ?_) | (with_reducible refine memLater h1 ?_) | (with_reducible refine (memSet (by omega)).trans ?_)))
    have hBW : Below w.heap.size w (w2.alloc (.cells #[.int .i64 B, .int .i64 E] 128)) := by
      repeat (with_reducible first | exact Below.refl _ _ | refine b_s ?_ _ | refine b_a ?_ _ | refine Below.drew ?_ | refine below_drewN ?_ _ | refine b_t ?_ h2 | refine b_t ?_ h1)
    clear F h1 h2 s0 s1 s2 s3 s4 s5 s6
    have a0 := FW.c0; have a1 := FW.c1; have a2 := FW.c2; have a3 := FW.c3; have a4 := FW.c4
    have b0 := T.c0; have b1 := T.c1
    go_wp2
    go_loopg [11, 12] (E + 1 - (p + fr)) (fun g lf pl wr => ∃ i m : Nat, p + fr ≤ i ∧ i ≤ 1100 ∧ g = E + 1 - i ∧ 1 ≤ m ∧ m ≤ 99 ∧ lf = .int .i64 m ∧ pl = .int .i64 i ∧ Hid (Nib.fndU s ch E (E - i) m i = O) ∧ Five wr (w.heap.size + 1) s p n v c ∧ wr.cell? ⟨w.heap.size, 1, none⟩ = some (.int .u8 ch) ∧ Two wr (w2.heap.size) B E ∧ Below w.heap.size w wr)
    case atStart => exact ⟨p + fr, N, Nat.le_refl _, by omega, rfl, hN1, hN2, rfl, by go_num, HO, FW, cW, T, hBW⟩
    case round =>
      clear FW cW T hBW a0 a1 a2 a3 a4 b0 b1 HO HL HN
      obtain ⟨i, m, hi1, hi2, hg, hm1, hm2, rfl, rfl, hu, F, cW, T, hB⟩ := hrel
      have a0 := F.c0; have a1 := F.c1; have al := F.lt
      have b0 := T.c0; have b1 := T.c1; have bl := T.lt
      have hBi : (B : Int) ≤ (i : Int) := by omega
      by_cases hlt : i < E
      · have his : i < s.size := by omega
        have hltI : (i : Int) < (E : Int) := by omega
        by_cases hc : Nib.bt s i = ch
        · have hcc : (((s[i]'his).toNat : Int) == ch) = true := by rw [← Nib.bt_in his]; simp [hc]
          by_cases hm : m = 1
          · have HS : Hid (O = some i) := by
              rw [Hid, ← hu.out, show E - i = (E - (i + 1)) + 1 by omega]
              simp only [Nib.fndU]
              rw [if_pos hlt, if_pos hc, if_pos hm]
            subst hm
            clear hu hc
            go_wp2_with fail
            go_region
            go_wp2
            all_goals
              first
                | (refine bodyPost_ret (v := .tuple #[.int .i64 i, .bool true]) (by simp [results, Tryz.results238, go_sem]) rfl ⟨by rw [HS.out]; rfl, ?_⟩ <;> repeat (with_reducible first | exact Below.refl _ _ | refine b_s ?_ _ | refine b_a ?_ _ | refine Below.drew ?_ | refine below_drewN ?_ _ | refine b_t ?_ hB))
          · have HS : Hid (Nib.fndU s ch E (E - (i + 1)) (m - 1) (i + 1) = O) := by
              rw [Hid, ← hu.out, show E - i = (E - (i + 1)) + 1 by omega]
              simp only [Nib.fndU]
              rw [if_pos hlt, if_pos hc, if_neg hm]
            have hm0 : (((m : Int) - 1) == 0) = false := by simp; omega
            clear hu hc
            go_wp2_with fail
            go_region
            go_wp2
            go_roundg (E + 1 - (i + 1))
            case measure => omega
            case rel => exact ⟨i + 1, m - 1, by omega, by omega, rfl, by omega, by omega, by congr 1; omega, by go_num, HS, F.drew, memLater ((Below.refl _ _).drew) cW, T.drew, hB.drew⟩
        · have hcc : (((s[i]'his).toNat : Int) == ch) = false := by rw [← Nib.bt_in his]; simp [hc]
          have HS : Hid (Nib.fndU s ch E (E - (i + 1)) m (i + 1) = O) := by
            rw [Hid, ← hu.out, show E - i = (E - (i + 1)) + 1 by omega]
            simp only [Nib.fndU]
            rw [if_pos hlt, if_neg hc]
          have hm0 : ((m : Int) == 0) = false := by simp; omega
          clear hu hc
          go_wp2_with fail
          go_region
          go_wp2
          go_roundg (E + 1 - (i + 1))
          case measure => omega
          case rel => exact ⟨i + 1, m, by omega, by omega, rfl, by omega, by omega, rfl, by go_num, HS, F.drew, memLater ((Below.refl _ _).drew) cW, T.drew, hB.drew⟩
      · have HS : Hid (O = none) := by
          rw [Hid, ← hu.out, show E - i = 0 by omega]
          rfl
        clear hu
        go_wp2
        all_goals
          first
            | (refine bodyPost_ret (v := .tuple #[.int .i64 0, .bool false]) (by simp [results, Tryz.results238, go_sem]) rfl ⟨by rw [HS.out]; rfl, ?_⟩ <;> repeat (with_reducible first | exact Below.refl _ _ | refine b_s ?_ _ | refine b_a ?_ _ | refine Below.drew ?_ | refine below_drewN ?_ _ | refine b_t ?_ hB))
  · have T : Two ((w2.setCell ⟨w1.heap.size, 0, none⟩ (.int .i64 B)).setCell ⟨w1.heap.size, 1, none⟩ (.int .i64 E)) (w1.heap.size) B E := Two.set1 (Two.set0 (Two.below (Two.new _ 0 0 _) h2) _) _
    clear hc1 hf1 hc2 hf2
    have FW : Five ((w2.setCell ⟨w1.heap.size, 0, none⟩ (.int .i64 B)).setCell ⟨w1.heap.size, 1, none⟩ (.int .i64 E)) (w.heap.size + 1) s p n v c := by
      repeat (with_reducible first | exact F | refine f_o ?_ _ | refine Five.alloc ?_ _ | refine Five.drewN ?_ _ | refine Five.drew ?_ | refine Five.below ?_ h2 | refine Five.below ?_ h1)
    have cW : ((w2.setCell ⟨w1.heap.size, 0, none⟩ (.int .i64 B)).setCell ⟨w1.heap.size, 1, none⟩ (.int .i64 E)).cell? ⟨w.heap.size, 1, none⟩ = some (.int .u8 ch) := by
      (repeat (first | with_reducible assumption | (with_reducible refine memLater ((Below.refl _ _).alloc (Nat.le_refl _) _) ?_) | (with_reducible refine memLater ((Below.refl _ _).drew) ?_) | (with_reducible refine memLater h2 ?_) | (with_reducible refine memLater h1 ?_) | (with_reducible refine (memSet (by omega)).trans ?_)))
    have hBW : Below w.heap.size w ((w2.setCell ⟨w1.heap.size, 0, none⟩ (.int .i64 B)).setCell ⟨w1.heap.size, 1, none⟩ (.int .i64 E)) := by
      repeat (with_reducible first | exact Below.refl _ _ | refine b_s ?_ _ | refine b_a ?_ _ | refine Below.drew ?_ | refine below_drewN ?_ _ | refine b_t ?_ h2 | refine b_t ?_ h1)
    clear F h1 h2 s0 s1 s2 s3 s4 s5 s6
    have a0 := FW.c0; have a1 := FW.c1; have a2 := FW.c2; have a3 := FW.c3; have a4 := FW.c4
    have b0 := T.c0; have b1 := T.c1
    go_wp2
    go_loopg [11, 12] (E + 1 - (p + fr)) (fun g lf pl wr => ∃ i m : Nat, p + fr ≤ i ∧ i ≤ 1100 ∧ g = E + 1 - i ∧ 1 ≤ m ∧ m ≤ 99 ∧ lf = .int .i64 m ∧ pl = .int .i64 i ∧ Hid (Nib.fndU s ch E (E - i) m i = O) ∧ Five wr (w.heap.size + 1) s p n v c ∧ wr.cell? ⟨w.heap.size, 1, none⟩ = some (.int .u8 ch) ∧ Two wr (w1.heap.size) B E ∧ Below w.heap.size w wr)
    case atStart => exact ⟨p + fr, N, Nat.le_refl _, by omega, rfl, hN1, hN2, rfl, by go_num, HO, FW, cW, T, hBW⟩
    case round =>
      clear FW cW T hBW a0 a1 a2 a3 a4 b0 b1 HO HL HN
      obtain ⟨i, m, hi1, hi2, hg, hm1, hm2, rfl, rfl, hu, F, cW, T, hB⟩ := hrel
      have a0 := F.c0; have a1 := F.c1; have al := F.lt
      have b0 := T.c0; have b1 := T.c1; have bl := T.lt
      have hBi : (B : Int) ≤ (i : Int) := by omega
      by_cases hlt : i < E
      · have his : i < s.size := by omega
        have hltI : (i : Int) < (E : Int) := by omega
        by_cases hc : Nib.bt s i = ch
        · have hcc : (((s[i]'his).toNat : Int) == ch) = true := by rw [← Nib.bt_in his]; simp [hc]
          by_cases hm : m = 1
          · have HS : Hid (O = some i) := by
              rw [Hid, ← hu.out, show E - i = (E - (i + 1)) + 1 by omega]
              simp only [Nib.fndU]
              rw [if_pos hlt, if_pos hc, if_pos hm]
            subst hm
            clear hu hc
            go_wp2_with fail
            go_region
            go_wp2
            all_goals
              first
                | (refine bodyPost_ret (v := .tuple #[.int .i64 i, .bool true]) (by simp [results, Tryz.results238, go_sem]) rfl ⟨by rw [HS.out]; rfl, ?_⟩ <;> repeat (with_reducible first | exact Below.refl _ _ | refine b_s ?_ _ | refine b_a ?_ _ | refine Below.drew ?_ | refine below_drewN ?_ _ | refine b_t ?_ hB))
          · have HS : Hid (Nib.fndU s ch E (E - (i + 1)) (m - 1) (i + 1) = O) := by
              rw [Hid, ← hu.out, show E - i = (E - (i + 1)) + 1 by omega]
              simp only [Nib.fndU]
              rw [if_pos hlt, if_pos hc, if_neg hm]
            have hm0 : (((m : Int) - 1) == 0) = false := by simp; omega
            clear hu hc
            go_wp2_with fail
            go_region
            go_wp2
            go_roundg (E + 1 - (i + 1))
            case measure => omega
            case rel => exact ⟨i + 1, m - 1, by omega, by omega, rfl, by omega, by omega, by congr 1; omega, by go_num, HS, F.drew, memLater ((Below.refl _ _).drew) cW, T.drew, hB.drew⟩
        · have hcc : (((s[i]'his).toNat : Int) == ch) = false := by rw [← Nib.bt_in his]; simp [hc]
          have HS : Hid (Nib.fndU s ch E (E - (i + 1)) m (i + 1) = O) := by
            rw [Hid, ← hu.out, show E - i = (E - (i + 1)) + 1 by omega]
            simp only [Nib.fndU]
            rw [if_pos hlt, if_neg hc]
          have hm0 : ((m : Int) == 0) = false := by simp; omega
          clear hu hc
          go_wp2_with fail
          go_region
          go_wp2
          go_roundg (E + 1 - (i + 1))
          case measure => omega
          case rel => exact ⟨i + 1, m, by omega, by omega, rfl, by omega, by omega, rfl, by go_num, HS, F.drew, memLater ((Below.refl _ _).drew) cW, T.drew, hB.drew⟩
      · have HS : Hid (O = none) := by
          rw [Hid, ← hu.out, show E - i = 0 by omega]
          rfl
        clear hu
        go_wp2
        all_goals
          first
            | (refine bodyPost_ret (v := .tuple #[.int .i64 0, .bool false]) (by simp [results, Tryz.results238, go_sem]) rfl ⟨by rw [HS.out]; rfl, ?_⟩ <;> repeat (with_reducible first | exact Below.refl _ _ | refine b_s ?_ _ | refine b_a ?_ _ | refine Below.drew ?_ | refine below_drewN ?_ _ | refine b_t ?_ hB))
  · have T : Two ((w2.setCell ⟨w.heap.size + 1 + 1, 0, none⟩ (.int .i64 B)).setCell ⟨w.heap.size + 1 + 1, 1, none⟩ (.int .i64 E)) (w.heap.size + 1 + 1) B E := by
      refine Two.set1 (Two.set0 (x := 0) (y := 0) (Two.below (Two.below (Two.drew ?_) h1) h2) _) _
      have := Two.new ((w.alloc (.cells #[.int .u8 key, .int .u8 ch] 95)).alloc (.cells #[.string s, .int .i64 (p), .int .i64 (n), .bool v, .bool c] 206)) 0 0 128
      simpa using this
    clear hc1 hf1 hc2 hf2
    have FW : Five ((w2.setCell ⟨w.heap.size + 1 + 1, 0, none⟩ (.int .i64 B)).setCell ⟨w.heap.size + 1 + 1, 1, none⟩ (.int .i64 E)) (w.heap.size + 1) s p n v c := by
      repeat (with_reducible first | exact F | refine f_o ?_ _ | refine Five.alloc ?_ _ | refine Five.drewN ?_ _ | refine Five.drew ?_ | refine Five.below ?_ h2 | refine Five.below ?_ h1)
    have cW : ((w2.setCell ⟨w.heap.size + 1 + 1, 0, none⟩ (.int .i64 B)).setCell ⟨w.heap.size + 1 + 1, 1, none⟩ (.int .i64 E)).cell? ⟨w.heap.size, 1, none⟩ = some (.int .u8 ch) := by
      (repeat (first | with_reducible assumption | (with_reducible refine memLater ((Below.refl _ _).alloc (Nat.le_refl _) _) ?_) | (with_reducible refine memLater ((Below.refl _ _).drew) ?_) | (with_reducible refine memLater h2 ?_) | (with_reducible refine memLater h1 ?_) | (with_reducible refine (memSet (by omega)).trans ?_)))
    have hBW : Below w.heap.size w ((w2.setCell ⟨w.heap.size + 1 + 1, 0, none⟩ (.int .i64 B)).setCell ⟨w.heap.size + 1 + 1, 1, none⟩ (.int .i64 E)) := by
      repeat (with_reducible first | exact Below.refl _ _ | refine b_s ?_ _ | refine b_a ?_ _ | refine Below.drew ?_ | refine below_drewN ?_ _ | refine b_t ?_ h2 | refine b_t ?_ h1)
    clear F h1 h2 s0 s1 s2 s3 s4 s5 s6
    have a0 := FW.c0; have a1 := FW.c1; have a2 := FW.c2; have a3 := FW.c3; have a4 := FW.c4
    have b0 := T.c0; have b1 := T.c1
    go_wp2
    go_loopg [11, 12] (E + 1 - (p + fr)) (fun g lf pl wr => ∃ i m : Nat, p + fr ≤ i ∧ i ≤ 1100 ∧ g = E + 1 - i ∧ 1 ≤ m ∧ m ≤ 99 ∧ lf = .int .i64 m ∧ pl = .int .i64 i ∧ Hid (Nib.fndU s ch E (E - i) m i = O) ∧ Five wr (w.heap.size + 1) s p n v c ∧ wr.cell? ⟨w.heap.size, 1, none⟩ = some (.int .u8 ch) ∧ Two wr (w.heap.size + 1 + 1) B E ∧ Below w.heap.size w wr)
    case atStart => exact ⟨p + fr, N, Nat.le_refl _, by omega, rfl, hN1, hN2, rfl, by go_num, HO, FW, cW, T, hBW⟩
    case round =>
      clear FW cW T hBW a0 a1 a2 a3 a4 b0 b1 HO HL HN
      obtain ⟨i, m, hi1, hi2, hg, hm1, hm2, rfl, rfl, hu, F, cW, T, hB⟩ := hrel
      have a0 := F.c0; have a1 := F.c1; have al := F.lt
      have b0 := T.c0; have b1 := T.c1; have bl := T.lt
      have hBi : (B : Int) ≤ (i : Int) := by omega
      by_cases hlt : i < E
      · have his : i < s.size := by omega
        have hltI : (i : Int) < (E : Int) := by omega
        by_cases hc : Nib.bt s i = ch
        · have hcc : (((s[i]'his).toNat : Int) == ch) = true := by rw [← Nib.bt_in his]; simp [hc]
          by_cases hm : m = 1
          · have HS : Hid (O = some i) := by
              rw [Hid, ← hu.out, show E - i = (E - (i + 1)) + 1 by omega]
              simp only [Nib.fndU]
              rw [if_pos hlt, if_pos hc, if_pos hm]
            subst hm
            clear hu hc
            go_wp2_with fail
            go_region
            go_wp2
            all_goals
              first
                | (refine bodyPost_ret (v := .tuple #[.int .i64 i, .bool true]) (by simp [results, Tryz.results238, go_sem]) rfl ⟨by rw [HS.out]; rfl, ?_⟩ <;> repeat (with_reducible first | exact Below.refl _ _ | refine b_s ?_ _ | refine b_a ?_ _ | refine Below.drew ?_ | refine below_drewN ?_ _ | refine b_t ?_ hB))
          · have HS : Hid (Nib.fndU s ch E (E - (i + 1)) (m - 1) (i + 1) = O) := by
              rw [Hid, ← hu.out, show E - i = (E - (i + 1)) + 1 by omega]
              simp only [Nib.fndU]
              rw [if_pos hlt, if_pos hc, if_neg hm]
            have hm0 : (((m : Int) - 1) == 0) = false := by simp; omega
            clear hu hc
            go_wp2_with fail
            go_region
            go_wp2
            go_roundg (E + 1 - (i + 1))
            case measure => omega
            case rel => exact ⟨i + 1, m - 1, by omega, by omega, rfl, by omega, by omega, by congr 1; omega, by go_num, HS, F.drew, memLater ((Below.refl _ _).drew) cW, T.drew, hB.drew⟩
        · have hcc : (((s[i]'his).toNat : Int) == ch) = false := by rw [← Nib.bt_in his]; simp [hc]
          have HS : Hid (Nib.fndU s ch E (E - (i + 1)) m (i + 1) = O) := by
            rw [Hid, ← hu.out, show E - i = (E - (i + 1)) + 1 by omega]
            simp only [Nib.fndU]
            rw [if_pos hlt, if_neg hc]
          have hm0 : ((m : Int) == 0) = false := by simp; omega
          clear hu hc
          go_wp2_with fail
          go_region
          go_wp2
          go_roundg (E + 1 - (i + 1))
          case measure => omega
          case rel => exact ⟨i + 1, m, by omega, by omega, rfl, by omega, by omega, rfl, by go_num, HS, F.drew, memLater ((Below.refl _ _).drew) cW, T.drew, hB.drew⟩
      · have HS : Hid (O = none) := by
          rw [Hid, ← hu.out, show E - i = 0 by omega]
          rfl
        clear hu
        go_wp2
        all_goals
          first
            | (refine bodyPost_ret (v := .tuple #[.int .i64 0, .bool false]) (by simp [results, Tryz.results238, go_sem]) rfl ⟨by rw [HS.out]; rfl, ?_⟩ <;> repeat (with_reducible first | exact Below.refl _ _ | refine b_s ?_ _ | refine b_a ?_ _ | refine Below.drew ?_ | refine below_drewN ?_ _ | refine b_t ?_ hB))
end Go.Proofs.YtlendfhehhacpaaGreat
