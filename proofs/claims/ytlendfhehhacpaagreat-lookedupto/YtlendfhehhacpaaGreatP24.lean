/- Joined of the texts TextG. -/
import Derived.Test.YtlendfhehhacpaaGreatP23
import Derived.Test.YtlendfhehhacpaaGreatP03
set_option linter.unusedVariables false
set_option linter.unusedSimpArgs false
set_option maxRecDepth 100000
set_option maxHeartbeats 8000000
namespace Go.Proofs.YtlendfhehhacpaaGreat
open Go.RowKit
def mtI (x : Int) : Int := if x < 0 then 0 else x
def mtB (x : Int) : Bool := decide (0 ≤ x)
theorem tSeek_40 (s : ByteArray) (q d : Nat) (w : World) (hs : s.size ≤ 1000) (hq : q < s.size) (hd : d ≤ 1) (hd0 : 1 ≤ d ∨ Nib.bt s q = 40) :
    Calls Tryz.prog 287 #[.string s, .int .u8 40, .int .i64 q, .int .i64 d] w fun e w' => e = .returned (.tuple #[.int .i64 (mtI (Nib.mtU s 40 41 (s.size - q) d q)), .bool (mtB (Nib.mtU s 40 41 (s.size - q) d q))]) ∧ Below w.heap.size w w' := by
  generalize hX : Nib.mtU s 40 41 (s.size - q) d q = X
  have HX : Hid (Nib.mtU s 40 41 (s.size - q) d q = X) := hX
  clear hX
  have hq' : q ≤ s.size := by omega
  have hm := Nib.lin_lt hq'
  have HL : Hid (∀ ww, Calls Tryz.prog 195 #[.string s, .int .i64 q] ww fun e w' => e = .returned (.agg #[.int .i64 (Nib.att s (Nib.lin s q)), .int .i64 (Nib.fin s (Nib.att s (Nib.lin s q)))]) ∧ Below ww.heap.size ww w') := by
    intro ww
    have := tLine_any s q q ww hs rfl hq'
    rw [Nib.fin_eq hq', Nib.beg_eq hq'] at this
    exact this
  have hix : firstIdx ⟨#[40, 41, 91, 93, 123, 125]⟩ (40 : Int).toNat.toUInt8 = 0 := by decide
  have hbx : bits BinOp.xor IntKind.i64 0 1 = 1 := by decide
  have hel : ((⟨#[40, 41, 91, 93, 123, 125]⟩ : ByteArray)[1]'(by decide)).toNat = 41 := by decide
  go_enter Tryz.func287, Tryz.ntmps287
  go_wp2_with fail
  go_step3
  go_wp2_with fail
  refine (indexByte_any ⟨#[40, 41, 91, 93, 123, 125]⟩ 40 _).mono ?_
  rintro e w9 ⟨rfl, h9⟩
  have h9 := h9.symm
  subst h9
  rw [hix]
  go_wp2_with fail
  refine (HL.out _).mono ?_
  rintro e w1 ⟨rfl, h1⟩
  obtain ⟨hc1, hf1⟩ := bcell h1
  have hz1 := h1.size
  try simp at hz1
  go_wp2
  go_step3
  go_wp2
  go_loopg [2, 3, 14] (Nib.lns s - Nib.lin s q) (fun g pl dp mo wr => (∃ j pv b m : Nat, j < Nib.lns s ∧ g + j = Nib.lns s ∧ pl = .int .i64 pv ∧ dp = .int .i64 m ∧ b = max pv (Nib.att s j) ∧ b ≤ Nib.fin s (Nib.att s j) ∧ m ≤ b + 1 ∧ (1 ≤ m ∨ Nib.bt s b = 40) ∧ Hid (Nib.mtU s 40 41 (s.size - b) m b = X) ∧ mo = .bool true ∧ Two wr w1.heap.size (Nib.att s j) (Nib.fin s (Nib.att s j)) ∧ Below w.heap.size w wr) ∨ (Hid (X = -1) ∧ mo = .bool false ∧ Below w.heap.size w wr))
  case atStart =>
    refine Or.inl ⟨Nib.lin s q, q, q, d, hm, ?_, rfl, rfl, ?_, ?_, by omega, hd0, HX, rfl, Two.new _ _ _ _, ?_⟩
    · omega
    · rw [← Nib.beg_eq hq']; have := Nib.beg_le s q; omega
    · rw [← Nib.fin_eq hq']; exact Nib.fin_ge s q
    · repeat (with_reducible first | exact Below.refl _ _ | refine b_s ?_ _ | refine b_a ?_ _ | refine Below.drew ?_ | refine below_drewN ?_ _ | refine b_t ?_ h1)
  case round =>
    rcases hrel with ⟨j, pv, b, m, hj, hg, rfl, rfl, hb, hbf, hmb, hor, hu, rfl, T, hB⟩ | ⟨HZ, rfl, hB⟩
    · have t0 := (T).c0
      have t1 := (T).c1
      have tz := (T).fz
      have tl := (T).lt
      by_cases hpv : (pv : Int) < (Nib.att s j : Nat)
      · have eb : b = Nib.att s j := by omega
        subst eb
        clear hb
        go_wp2
        go_loopg [2, 3] (Nib.fin s (Nib.att s j) - Nib.att s j) (fun g2 pl dp wx => ∃ i n : Nat, Nib.att s j ≤ i ∧ i + g2 = Nib.fin s (Nib.att s j) ∧ pl = .int .i64 i ∧ dp = .int .i64 n ∧ n ≤ i + 1 ∧ (1 ≤ n ∨ Nib.bt s i = 40) ∧ Hid (Nib.mtU s 40 41 (s.size - i) n i = X) ∧ wx = wr)
        case atStart => exact ⟨Nib.att s j, m, Nat.le_refl _, by omega, rfl, rfl, hmb, hor, hu, rfl⟩
        case round =>
          clear hu hor hmb
          obtain ⟨i, n, hi1, hi2, rfl, rfl, hn, hor, hu, rfl⟩ := hrel
          have hfl := Nib.fin_le (Nib.att_in hj).1
          have hle' : ((Nib.att s j : Nat) : Int) ≤ (i : Int) := by omega
          by_cases hlt : i < Nib.fin s (Nib.att s j)
          · have his : i < s.size := by omega
            have ef : s.size - i = (s.size - (i + 1)) + 1 := by omega
            by_cases h40 : Nib.bt s i = 40
            · have hcc : (((s[i]'his).toNat : Int) == 40) = true := by rw [← Nib.bt_in his]; simp [h40]
              have HS : Hid (Nib.mtU s 40 41 (s.size - (i + 1)) ((n + 1 : Nat) : Int) (i + 1) = X) := by
                rw [Hid, ← hu.out, ef]
                have e : Nib.dep s 40 41 n i = ((n + 1 : Nat) : Int) := by unfold Nib.dep; rw [if_pos h40, if_neg (by omega)]; omega
                simp only [Nib.mtU]
                rw [if_pos his, e, if_neg (by omega)]
              clear hu hor h40 ef
              go_wp2
              go_roundg (Nib.fin s (Nib.att s j) - (i + 1))
              case measure => omega
              case rel => exact ⟨i + 1, n + 1, by omega, by omega, by go_num, by go_num, by omega, Or.inl (by omega), HS, rfl⟩
            · have hcc : (((s[i]'his).toNat : Int) == 40) = false := by rw [← Nib.bt_in his]; simp [h40]
              have hn1 : 1 ≤ n := by
                rcases hor with h | h
                · exact h
                · exact absurd h h40
              by_cases h41 : Nib.bt s i = 41
              · have hcd : (((s[i]'his).toNat : Int) == 41) = true := by rw [← Nib.bt_in his]; simp [h41]
                have e : Nib.dep s 40 41 n i = (n : Int) - 1 := by unfold Nib.dep; rw [if_neg h40, if_pos h41]; omega
                by_cases hn2 : n = 1
                · have HS : Hid (X = (i : Int)) := by
                    rw [Hid, ← hu.out, ef]
                    simp only [Nib.mtU]
                    rw [if_pos his, e, if_pos (by omega)]
                  subst hn2
                  clear hu hor h40 h41 e ef
                  go_wp2
                  (try rw [Exit.noGoto_ret])
                  all_goals
                    first
                      | (refine bodyPost_ret (v := .tuple #[.int .i64 i, .bool true]) (by simp [results, Tryz.results287, go_sem]) rfl ⟨by rw [HS.out]; unfold mtI mtB; rw [if_neg (by omega), decide_eq_true (by omega)], ?_⟩ <;> repeat (with_reducible first | exact Below.refl _ _ | refine b_s ?_ _ | refine b_a ?_ _ | refine Below.drew ?_ | refine below_drewN ?_ _ | refine b_t ?_ hB))
                · have HS : Hid (Nib.mtU s 40 41 (s.size - (i + 1)) ((n - 1 : Nat) : Int) (i + 1) = X) := by
                    rw [Hid, ← hu.out, ef]
                    simp only [Nib.mtU]
                    rw [if_pos his, e, if_neg (by omega), show ((n - 1 : Nat) : Int) = (n : Int) - 1 by omega]
                  have hm0 : (((n : Int) - 1) == 0) = false := by simp; omega
                  clear hu hor h40 h41 e ef
                  go_wp2
                  go_roundg (Nib.fin s (Nib.att s j) - (i + 1))
                  case measure => omega
                  case rel => exact ⟨i + 1, n - 1, by omega, by omega, by go_num, by first | rfl | (congr 1; omega), by omega, Or.inl (by omega), HS, rfl⟩
              · have hcd : (((s[i]'his).toNat : Int) == 41) = false := by rw [← Nib.bt_in his]; simp [h41]
                have HS : Hid (Nib.mtU s 40 41 (s.size - (i + 1)) (n : Int) (i + 1) = X) := by
                  rw [Hid, ← hu.out, ef]
                  have e : Nib.dep s 40 41 n i = (n : Int) := by unfold Nib.dep; rw [if_neg h40, if_neg h41]; omega
                  simp only [Nib.mtU]
                  rw [if_pos his, e, if_neg (by omega)]
                clear hu hor h40 h41 ef
                go_wp2
                go_roundg (Nib.fin s (Nib.att s j) - (i + 1))
                case measure => omega
                case rel => exact ⟨i + 1, n, by omega, by omega, by go_num, rfl, by omega, Or.inl hn1, HS, rfl⟩
          · have HEI : Hid (i = Nib.fin s (Nib.att s j)) := (by omega : i = Nib.fin s (Nib.att s j))
            have hgeI : ¬ (i : Int) < ((Nib.fin s (Nib.att s j) : Nat) : Int) := by omega
            by_cases hne : j + 1 < Nib.lns s
            · have hef := Nib.fin_lt_of hne
              have h10 : Nib.bt s i = 10 := by
                have h := Nib.fin_nl hef
                rw [← HEI.out] at h
                unfold Nib.nl at h
                simpa using h
              have hn1 : 1 ≤ n := by
                rcases hor with h | h
                · exact h
                · omega
              have HS : Hid (Nib.mtU s 40 41 (s.size - Nib.att s (j + 1)) (n : Int) (Nib.att s (j + 1)) = X) := by
                have h9 : Nib.att s (j + 1) = i + 1 := by rw [HEI.out]; rfl
                have his : i < s.size := by have := HEI.out; omega
                rw [Hid, ← hu.out, h9, show s.size - i = (s.size - (i + 1)) + 1 by omega]
                have e : Nib.dep s 40 41 n i = (n : Int) := by unfold Nib.dep; rw [if_neg (by omega), if_neg (by omega)]; omega
                simp only [Nib.mtU]
                rw [if_pos his, e, if_neg (by omega)]
              clear hu hor h10
              have HBs : Hid (∀ ww, Calls Tryz.prog 223 #[.string s, .agg #[.int .i64 (Nib.att s j), .int .i64 (Nib.fin s (Nib.att s j))], .int .i64 1] ww fun e w' => e = .returned (.tuple #[.agg #[.int .i64 (Nib.att s (j + 1)), .int .i64 (Nib.fin s (Nib.att s (j + 1)))], .bool true]) ∧ Below ww.heap.size ww w') := fun ww => tBeside_down s _ _ _ j ww hs rfl rfl rfl hne
              go_wp2_with fail
              refine (HBs.out _).mono ?_
              rintro r2 w2 ⟨rfl, h2⟩
              obtain ⟨hc2, hf2⟩ := bcell h2
              have hz2 := h2.size
              (try simp at hz2)
              have T2 : Two w2 (w1.heap.size) (Nib.att s j) (Nib.fin s (Nib.att s j)) := (by repeat (with_reducible first | exact T | refine t_o ?_ _ | refine Two.alloc ?_ _ | refine Two.drewN ?_ _ | refine Two.drew ?_ | refine Two.below ?_ h2))
              have T2_0 := T2.c0
              have T2_1 := T2.c1
              have T2_z := T2.fz
              have T2_l := T2.lt
              clear hc2 hf2
              go_wp2
              go_roundg (Nib.lns s - (j + 1))
              case measure => omega
              case rel =>
                have h9 : Nib.att s (j + 1) = i + 1 := by rw [HEI.out]; rfl
                refine Or.inl ⟨j + 1, i, Nib.att s (j + 1), n, hne, by omega, rfl, rfl, by omega, Nib.fin_ge _ _, by omega, Or.inl hn1, HS, rfl, Two.set1 (Two.set0 T2 _) _, ?_⟩
                repeat (with_reducible first | exact Below.refl _ _ | refine b_s ?_ _ | refine b_a ?_ _ | refine Below.drew ?_ | refine below_drewN ?_ _ | refine b_t ?_ h2 | refine b_t ?_ hB)
            · have hF := Nib.fin_last (s := s) (m := j) (by omega)
              have HZ : Hid (X = -1) := by
                rw [Hid, ← hu.out, show s.size - i = 0 by have := HEI.out; omega]
                rfl
              clear hu hor
              have HBs : Hid (∀ ww, Calls Tryz.prog 223 #[.string s, .agg #[.int .i64 (Nib.att s j), .int .i64 (Nib.fin s (Nib.att s j))], .int .i64 1] ww fun e w' => e = .returned (.tuple #[.agg #[.int .i64 (0), .int .i64 (0)], .bool false]) ∧ Below ww.heap.size ww w') := fun ww => tBeside_none s _ _ _ ww hs (Or.inl rfl) (fun _ => by omega) (fun h => by omega)
              clear hF
              go_wp2_with fail
              refine (HBs.out _).mono ?_
              rintro r2 w2 ⟨rfl, h2⟩
              obtain ⟨hc2, hf2⟩ := bcell h2
              have hz2 := h2.size
              (try simp at hz2)
              have T2 : Two w2 (w1.heap.size) (Nib.att s j) (Nib.fin s (Nib.att s j)) := (by repeat (with_reducible first | exact T | refine t_o ?_ _ | refine Two.alloc ?_ _ | refine Two.drewN ?_ _ | refine Two.drew ?_ | refine Two.below ?_ h2))
              have T2_0 := T2.c0
              have T2_1 := T2.c1
              have T2_z := T2.fz
              have T2_l := T2.lt
              clear hc2 hf2
              go_wp2
              go_roundg 0
              case measure => omega
              case rel =>
                refine Or.inr ⟨HZ, rfl, ?_⟩
                repeat (with_reducible first | exact Below.refl _ _ | refine b_s ?_ _ | refine b_a ?_ _ | refine Below.drew ?_ | refine below_drewN ?_ _ | refine b_t ?_ h2 | refine b_t ?_ hB)
      · have eb : pv = b := by omega
        have hpv' : ((Nib.att s j : Nat) : Int) ≤ (pv : Int) := by omega
        subst eb
        clear hb hpv
        go_wp2
        go_loopg [2, 3] (Nib.fin s (Nib.att s j) - pv) (fun g2 pl dp wx => ∃ i n : Nat, pv ≤ i ∧ i + g2 = Nib.fin s (Nib.att s j) ∧ pl = .int .i64 i ∧ dp = .int .i64 n ∧ n ≤ i + 1 ∧ (1 ≤ n ∨ Nib.bt s i = 40) ∧ Hid (Nib.mtU s 40 41 (s.size - i) n i = X) ∧ wx = wr)
        case atStart => exact ⟨pv, m, Nat.le_refl _, by omega, rfl, rfl, hmb, hor, hu, rfl⟩
        case round =>
          clear hu hor hmb
          obtain ⟨i, n, hi1, hi2, rfl, rfl, hn, hor, hu, rfl⟩ := hrel
          have hfl := Nib.fin_le (Nib.att_in hj).1
          have hle' : ((Nib.att s j : Nat) : Int) ≤ (i : Int) := by omega
          by_cases hlt : i < Nib.fin s (Nib.att s j)
          · have his : i < s.size := by omega
            have ef : s.size - i = (s.size - (i + 1)) + 1 := by omega
            by_cases h40 : Nib.bt s i = 40
            · have hcc : (((s[i]'his).toNat : Int) == 40) = true := by rw [← Nib.bt_in his]; simp [h40]
              have HS : Hid (Nib.mtU s 40 41 (s.size - (i + 1)) ((n + 1 : Nat) : Int) (i + 1) = X) := by
                rw [Hid, ← hu.out, ef]
                have e : Nib.dep s 40 41 n i = ((n + 1 : Nat) : Int) := by unfold Nib.dep; rw [if_pos h40, if_neg (by omega)]; omega
                simp only [Nib.mtU]
                rw [if_pos his, e, if_neg (by omega)]
              clear hu hor h40 ef
              go_wp2
              go_roundg (Nib.fin s (Nib.att s j) - (i + 1))
              case measure => omega
              case rel => exact ⟨i + 1, n + 1, by omega, by omega, by go_num, by go_num, by omega, Or.inl (by omega), HS, rfl⟩
            · have hcc : (((s[i]'his).toNat : Int) == 40) = false := by rw [← Nib.bt_in his]; simp [h40]
              have hn1 : 1 ≤ n := by
                rcases hor with h | h
                · exact h
                · exact absurd h h40
              by_cases h41 : Nib.bt s i = 41
              · have hcd : (((s[i]'his).toNat : Int) == 41) = true := by rw [← Nib.bt_in his]; simp [h41]
                have e : Nib.dep s 40 41 n i = (n : Int) - 1 := by unfold Nib.dep; rw [if_neg h40, if_pos h41]; omega
                by_cases hn2 : n = 1
                · have HS : Hid (X = (i : Int)) := by
                    rw [Hid, ← hu.out, ef]
                    simp only [Nib.mtU]
                    rw [if_pos his, e, if_pos (by omega)]
                  subst hn2
                  clear hu hor h40 h41 e ef
                  go_wp2
                  (try rw [Exit.noGoto_ret])
                  all_goals
                    first
                      | (refine bodyPost_ret (v := .tuple #[.int .i64 i, .bool true]) (by simp [results, Tryz.results287, go_sem]) rfl ⟨by rw [HS.out]; unfold mtI mtB; rw [if_neg (by omega), decide_eq_true (by omega)], ?_⟩ <;> repeat (with_reducible first | exact Below.refl _ _ | refine b_s ?_ _ | refine b_a ?_ _ | refine Below.drew ?_ | refine below_drewN ?_ _ | refine b_t ?_ hB))
                · have HS : Hid (Nib.mtU s 40 41 (s.size - (i + 1)) ((n - 1 : Nat) : Int) (i + 1) = X) := by
                    rw [Hid, ← hu.out, ef]
                    simp only [Nib.mtU]
                    rw [if_pos his, e, if_neg (by omega), show ((n - 1 : Nat) : Int) = (n : Int) - 1 by omega]
                  have hm0 : (((n : Int) - 1) == 0) = false := by simp; omega
                  clear hu hor h40 h41 e ef
                  go_wp2
                  go_roundg (Nib.fin s (Nib.att s j) - (i + 1))
                  case measure => omega
                  case rel => exact ⟨i + 1, n - 1, by omega, by omega, by go_num, by first | rfl | (congr 1; omega), by omega, Or.inl (by omega), HS, rfl⟩
              · have hcd : (((s[i]'his).toNat : Int) == 41) = false := by rw [← Nib.bt_in his]; simp [h41]
                have HS : Hid (Nib.mtU s 40 41 (s.size - (i + 1)) (n : Int) (i + 1) = X) := by
                  rw [Hid, ← hu.out, ef]
                  have e : Nib.dep s 40 41 n i = (n : Int) := by unfold Nib.dep; rw [if_neg h40, if_neg h41]; omega
                  simp only [Nib.mtU]
                  rw [if_pos his, e, if_neg (by omega)]
                clear hu hor h40 h41 ef
                go_wp2
                go_roundg (Nib.fin s (Nib.att s j) - (i + 1))
                case measure => omega
                case rel => exact ⟨i + 1, n, by omega, by omega, by go_num, rfl, by omega, Or.inl hn1, HS, rfl⟩
          · have HEI : Hid (i = Nib.fin s (Nib.att s j)) := (by omega : i = Nib.fin s (Nib.att s j))
            have hgeI : ¬ (i : Int) < ((Nib.fin s (Nib.att s j) : Nat) : Int) := by omega
            by_cases hne : j + 1 < Nib.lns s
            · have hef := Nib.fin_lt_of hne
              have h10 : Nib.bt s i = 10 := by
                have h := Nib.fin_nl hef
                rw [← HEI.out] at h
                unfold Nib.nl at h
                simpa using h
              have hn1 : 1 ≤ n := by
                rcases hor with h | h
                · exact h
                · omega
              have HS : Hid (Nib.mtU s 40 41 (s.size - Nib.att s (j + 1)) (n : Int) (Nib.att s (j + 1)) = X) := by
                have h9 : Nib.att s (j + 1) = i + 1 := by rw [HEI.out]; rfl
                have his : i < s.size := by have := HEI.out; omega
                rw [Hid, ← hu.out, h9, show s.size - i = (s.size - (i + 1)) + 1 by omega]
                have e : Nib.dep s 40 41 n i = (n : Int) := by unfold Nib.dep; rw [if_neg (by omega), if_neg (by omega)]; omega
                simp only [Nib.mtU]
                rw [if_pos his, e, if_neg (by omega)]
              clear hu hor h10
              have HBs : Hid (∀ ww, Calls Tryz.prog 223 #[.string s, .agg #[.int .i64 (Nib.att s j), .int .i64 (Nib.fin s (Nib.att s j))], .int .i64 1] ww fun e w' => e = .returned (.tuple #[.agg #[.int .i64 (Nib.att s (j + 1)), .int .i64 (Nib.fin s (Nib.att s (j + 1)))], .bool true]) ∧ Below ww.heap.size ww w') := fun ww => tBeside_down s _ _ _ j ww hs rfl rfl rfl hne
              go_wp2_with fail
              refine (HBs.out _).mono ?_
              rintro r2 w2 ⟨rfl, h2⟩
              obtain ⟨hc2, hf2⟩ := bcell h2
              have hz2 := h2.size
              (try simp at hz2)
              have T2 : Two w2 (w1.heap.size) (Nib.att s j) (Nib.fin s (Nib.att s j)) := (by repeat (with_reducible first | exact T | refine t_o ?_ _ | refine Two.alloc ?_ _ | refine Two.drewN ?_ _ | refine Two.drew ?_ | refine Two.below ?_ h2))
              have T2_0 := T2.c0
              have T2_1 := T2.c1
              have T2_z := T2.fz
              have T2_l := T2.lt
              clear hc2 hf2
              go_wp2
              go_roundg (Nib.lns s - (j + 1))
              case measure => omega
              case rel =>
                have h9 : Nib.att s (j + 1) = i + 1 := by rw [HEI.out]; rfl
                refine Or.inl ⟨j + 1, i, Nib.att s (j + 1), n, hne, by omega, rfl, rfl, by omega, Nib.fin_ge _ _, by omega, Or.inl hn1, HS, rfl, Two.set1 (Two.set0 T2 _) _, ?_⟩
                repeat (with_reducible first | exact Below.refl _ _ | refine b_s ?_ _ | refine b_a ?_ _ | refine Below.drew ?_ | refine below_drewN ?_ _ | refine b_t ?_ h2 | refine b_t ?_ hB)
            · have hF := Nib.fin_last (s := s) (m := j) (by omega)
              have HZ : Hid (X = -1) := by
                rw [Hid, ← hu.out, show s.size - i = 0 by have := HEI.out; omega]
                rfl
              clear hu hor
              have HBs : Hid (∀ ww, Calls Tryz.prog 223 #[.string s, .agg #[.int .i64 (Nib.att s j), .int .i64 (Nib.fin s (Nib.att s j))], .int .i64 1] ww fun e w' => e = .returned (.tuple #[.agg #[.int .i64 (0), .int .i64 (0)], .bool false]) ∧ Below ww.heap.size ww w') := fun ww => tBeside_none s _ _ _ ww hs (Or.inl rfl) (fun _ => by omega) (fun h => by omega)
              clear hF
              go_wp2_with fail
              refine (HBs.out _).mono ?_
              rintro r2 w2 ⟨rfl, h2⟩
              obtain ⟨hc2, hf2⟩ := bcell h2
              have hz2 := h2.size
              (try simp at hz2)
              have T2 : Two w2 (w1.heap.size) (Nib.att s j) (Nib.fin s (Nib.att s j)) := (by repeat (with_reducible first | exact T | refine t_o ?_ _ | refine Two.alloc ?_ _ | refine Two.drewN ?_ _ | refine Two.drew ?_ | refine Two.below ?_ h2))
              have T2_0 := T2.c0
              have T2_1 := T2.c1
              have T2_z := T2.fz
              have T2_l := T2.lt
              clear hc2 hf2
              go_wp2
              go_roundg 0
              case measure => omega
              case rel =>
                refine Or.inr ⟨HZ, rfl, ?_⟩
                repeat (with_reducible first | exact Below.refl _ _ | refine b_s ?_ _ | refine b_a ?_ _ | refine Below.drew ?_ | refine below_drewN ?_ _ | refine b_t ?_ h2 | refine b_t ?_ hB)
    · go_wp2
      (try rw [Exit.noGoto_ret])
      all_goals
        first
          | (refine bodyPost_ret (v := .tuple #[.int .i64 0, .bool false]) (by simp [results, Tryz.results287, go_sem]) rfl ⟨by rw [HZ.out]; rfl, ?_⟩ <;> repeat (with_reducible first | exact Below.refl _ _ | refine b_s ?_ _ | refine b_a ?_ _ | refine Below.drew ?_ | refine below_drewN ?_ _ | refine b_t ?_ hB))
end Go.Proofs.YtlendfhehhacpaaGreat
