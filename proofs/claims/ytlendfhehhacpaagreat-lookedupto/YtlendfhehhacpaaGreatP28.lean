/- Joined of the texts TextH2. -/
import Derived.Test.YtlendfhehhacpaaGreatP24
set_option linter.unusedVariables false
set_option linter.unusedSimpArgs false
set_option maxRecDepth 100000
set_option maxHeartbeats 8000000
namespace Go.Proofs.YtlendfhehhacpaaGreat
open Go.RowKit
theorem tSeek_93 (s : ByteArray) (q d : Nat) (w : World) (hs : s.size ≤ 1000) (hq : q < s.size) (hd : d ≤ 1) (hd0 : 1 ≤ d ∨ Nib.bt s q = 93) :
    Calls Tryz.prog 287 #[.string s, .int .u8 93, .int .i64 q, .int .i64 d] w fun e w' => e = .returned (.tuple #[.int .i64 (mtI (Nib.mtD s 93 91 d (q + 1))), .bool (mtB (Nib.mtD s 93 91 d (q + 1)))]) ∧ Below w.heap.size w w' := by
  generalize hX : Nib.mtD s 93 91 d (q + 1) = X
  have HX : Hid (Nib.mtD s 93 91 d (q + 1) = X) := hX
  clear hX
  have hq' : q ≤ s.size := by omega
  have hm := Nib.lin_lt hq'
  have HL : Hid (∀ ww, Calls Tryz.prog 195 #[.string s, .int .i64 q] ww fun e w' => e = .returned (.agg #[.int .i64 (Nib.att s (Nib.lin s q)), .int .i64 (Nib.fin s (Nib.att s (Nib.lin s q)))]) ∧ Below ww.heap.size ww w') := by
    intro ww
    have := tLine_any s q q ww hs rfl hq'
    rw [Nib.fin_eq hq', Nib.beg_eq hq'] at this
    exact this
  have hix : firstIdx ⟨#[40, 41, 91, 93, 123, 125]⟩ (93 : Int).toNat.toUInt8 = 3 := by decide
  have hbx : bits BinOp.xor IntKind.i64 3 1 = 2 := by decide
  have hel : ((⟨#[40, 41, 91, 93, 123, 125]⟩ : ByteArray)[2]'(by decide)).toNat = 91 := by decide
  go_enter Tryz.func287, Tryz.ntmps287
  go_wp2_with fail
  go_step3
  go_wp2_with fail
  refine (indexByte_any ⟨#[40, 41, 91, 93, 123, 125]⟩ 93 _).mono ?_
  rintro e w9 ⟨rfl, h9⟩
  have h9 := h9.symm
  subst h9
  rw [hix]
  go_wp2_with fail
  refine (HL.out _).mono ?_
  rintro e w1 ⟨rfl, h1⟩
  obtain ⟨hc1, hf1⟩ := bcell h1
  have hz1 := h1.size
  try simp at hz1
  go_wp2
  go_step3
  go_wp2
  go_loopg [2, 3, 14] (Nib.lin s q + 1) (fun g pl dp mo wr => (∃ j K m : Nat, j < Nib.lns s ∧ g = j + 1 ∧ pl = .int .i64 ((K : Int) - 1) ∧ dp = .int .i64 m ∧ Nib.att s j ≤ K ∧ K ≤ Nib.fin s (Nib.att s j) + 1 ∧ K ≤ s.size ∧ m + K ≤ 1002 ∧ (1 ≤ m ∨ (1 ≤ K ∧ Nib.bt s (K - 1) = 93)) ∧ Hid (Nib.mtD s 93 91 m K = X) ∧ mo = .bool true ∧ Two wr w1.heap.size (Nib.att s j) (Nib.fin s (Nib.att s j)) ∧ Below w.heap.size w wr) ∨ (Hid (X = -1) ∧ mo = .bool false ∧ Below w.heap.size w wr))
  case atStart =>
    have ha : Nib.att s (Nib.lin s q) ≤ q := by rw [← Nib.beg_eq hq']; exact Nib.beg_le s q
    have hf : q ≤ Nib.fin s (Nib.att s (Nib.lin s q)) := by rw [← Nib.fin_eq hq']; exact Nib.fin_ge s q
    refine Or.inl ⟨Nib.lin s q, q + 1, d, hm, rfl, by first | rfl | (congr 1; omega), rfl, by omega, by omega, by omega, by omega, ?_, HX, rfl, Two.new _ _ _ _, ?_⟩
    · rcases hd0 with h | h
      · exact Or.inl h
      · exact Or.inr ⟨by omega, h⟩
    · repeat (with_reducible first | exact Below.refl _ _ | refine b_s ?_ _ | refine b_a ?_ _ | refine Below.drew ?_ | refine below_drewN ?_ _ | refine b_t ?_ h1)
  case round =>
    rcases hrel with ⟨j, K, m, hj, hg, rfl, rfl, hka, hkf, hks, hmb, hor, hu, rfl, T, hB⟩ | ⟨HZ, rfl, hB⟩
    · have t0 := (T).c0
      have t1 := (T).c1
      have tz := (T).fz
      have tl := (T).lt
      have hfl := Nib.fin_le (Nib.att_in hj).1
      have hfg := Nib.fin_ge s (Nib.att s j)
      by_cases hK : Nib.fin s (Nib.att s j) < K
      · have eK : K = Nib.fin s (Nib.att s j) + 1 := by omega
        have h10 : Nib.bt s (Nib.fin s (Nib.att s j)) = 10 := by
          have h := Nib.fin_nl (s := s) (p := Nib.att s j) (by omega)
          unfold Nib.nl at h
          simpa using h
        have hm1 : 1 ≤ m := by
          rcases hor with h | h
          · exact h
          · have h2 := h.2
            rw [eK, Nat.add_sub_cancel, h10] at h2
            exact absurd h2 (by decide)
        have hu2 : Hid (Nib.mtD s 93 91 m (Nib.fin s (Nib.att s j)) = X) := by
          rw [Hid, ← hu.out, eK]
          have e : Nib.dep s 93 91 m (Nib.fin s (Nib.att s j)) = (m : Int) := by unfold Nib.dep; rw [if_neg (by omega), if_neg (by omega)]; omega
          simp only [Nib.mtD]
          rw [e, if_neg (by omega)]
        have hu := hu2
        have hor : 1 ≤ m ∨ (1 ≤ Nib.fin s (Nib.att s j) ∧ Nib.bt s (Nib.fin s (Nib.att s j) - 1) = 93) := Or.inl hm1
        have hKI : ((Nib.fin s (Nib.att s j) : Nat) : Int) - 1 < (K : Int) - 1 := by omega
        clear hu2 h10
        have HEK : Hid (K = Nib.fin s (Nib.att s j) + 1) := eK
        clear eK
        have hmf : m + Nib.fin s (Nib.att s j) ≤ 1002 := by omega
        go_wp2
        go_loopg [2, 3] (Nib.fin s (Nib.att s j) - Nib.att s j) (fun g2 pl dp wx => ∃ k n : Nat, Nib.att s j ≤ k ∧ k ≤ Nib.fin s (Nib.att s j) ∧ g2 = k - Nib.att s j ∧ pl = .int .i64 ((k : Int) - 1) ∧ dp = .int .i64 n ∧ n + k ≤ 1002 ∧ (1 ≤ n ∨ (1 ≤ k ∧ Nib.bt s (k - 1) = 93)) ∧ Hid (Nib.mtD s 93 91 n k = X) ∧ wx = wr)
        case atStart => exact ⟨Nib.fin s (Nib.att s j), m, by omega, by omega, rfl, by first | rfl | (congr 1; omega), rfl, by omega, hor, hu, rfl⟩
        case round =>
          clear hu hor hmb
          obtain ⟨k, n, hk1, hk2, hk3, rfl, rfl, hn, hor, hu, rfl⟩ := hrel
          by_cases hlt : Nib.att s j < k
          · obtain ⟨i, rfl⟩ : ∃ i, k = i + 1 := ⟨k - 1, by omega⟩
            have e1 : ((i + 1 : Nat) : Int) - 1 = (i : Int) := by omega
            rw [e1]
            have his : i < s.size := by omega
            have hle' : ((Nib.att s j : Nat) : Int) ≤ (i : Int) := by omega
            have hlt' : (i : Int) < ((Nib.fin s (Nib.att s j) : Nat) : Int) := by omega
            rw [Nat.add_sub_cancel] at hor
            by_cases hO : Nib.bt s i = 93
            · have hcc : (((s[i]'his).toNat : Int) == 93) = true := by rw [← Nib.bt_in his]; simp [hO]
              have HS : Hid (Nib.mtD s 93 91 ((n + 1 : Nat) : Int) i = X) := by
                rw [Hid, ← hu.out]
                have e : Nib.dep s 93 91 n i = ((n + 1 : Nat) : Int) := by unfold Nib.dep; rw [if_pos hO, if_neg (by omega)]; omega
                simp only [Nib.mtD]
                rw [e, if_neg (by omega)]
              clear hu hor hO e1
              go_wp2
              go_roundg (i - Nib.att s j)
              case measure => omega
              case rel => exact ⟨i, n + 1, by omega, by omega, rfl, by first | rfl | (congr 1; omega), by go_num, by omega, Or.inl (by omega), HS, rfl⟩
            · have hcc : (((s[i]'his).toNat : Int) == 93) = false := by rw [← Nib.bt_in his]; simp [hO]
              have hn1 : 1 ≤ n := by
                rcases hor with h | h
                · exact h
                · exact absurd h.2 hO
              by_cases hC : Nib.bt s i = 91
              · have hcd : (((s[i]'his).toNat : Int) == 91) = true := by rw [← Nib.bt_in his]; simp [hC]
                have e : Nib.dep s 93 91 n i = (n : Int) - 1 := by unfold Nib.dep; rw [if_neg hO, if_pos hC]; omega
                by_cases hn2 : n = 1
                · have HS : Hid (X = (i : Int)) := by
                    rw [Hid, ← hu.out]
                    simp only [Nib.mtD]
                    rw [e, if_pos (by omega)]
                  subst hn2
                  clear hu hor hO hC e e1
                  go_wp2
                  (try rw [Exit.noGoto_ret])
                  all_goals
                    first
                      | (refine bodyPost_ret (v := .tuple #[.int .i64 i, .bool true]) (by simp [results, Tryz.results287, go_sem]) rfl ⟨by rw [HS.out]; unfold mtI mtB; rw [if_neg (by omega), decide_eq_true (by omega)], ?_⟩ <;> repeat (with_reducible first | exact Below.refl _ _ | refine b_s ?_ _ | refine b_a ?_ _ | refine Below.drew ?_ | refine below_drewN ?_ _ | refine b_t ?_ hB))
                · have HS : Hid (Nib.mtD s 93 91 ((n - 1 : Nat) : Int) i = X) := by
                    rw [Hid, ← hu.out]
                    simp only [Nib.mtD]
                    rw [e, if_neg (by omega), show ((n - 1 : Nat) : Int) = (n : Int) - 1 by omega]
                  have hm0 : (((n : Int) - 1) == 0) = false := by simp; omega
                  clear hu hor hO hC e e1
                  go_wp2
                  go_roundg (i - Nib.att s j)
                  case measure => omega
                  case rel => exact ⟨i, n - 1, by omega, by omega, rfl, by first | rfl | (congr 1; omega), by first | rfl | (congr 1; omega), by omega, Or.inl (by omega), HS, rfl⟩
              · have hcd : (((s[i]'his).toNat : Int) == 91) = false := by rw [← Nib.bt_in his]; simp [hC]
                have HS : Hid (Nib.mtD s 93 91 (n : Int) i = X) := by
                  rw [Hid, ← hu.out]
                  have e : Nib.dep s 93 91 n i = (n : Int) := by unfold Nib.dep; rw [if_neg hO, if_neg hC]; omega
                  simp only [Nib.mtD]
                  rw [e, if_neg (by omega)]
                clear hu hor hO hC e1
                go_wp2
                go_roundg (i - Nib.att s j)
                case measure => omega
                case rel => exact ⟨i, n, by omega, by omega, rfl, by first | rfl | (congr 1; omega), rfl, by omega, Or.inl hn1, HS, rfl⟩
          · have ek : k = Nib.att s j := by omega
            subst ek
            have hge : ¬ ((Nib.att s j : Nat) : Int) ≤ ((Nib.att s j : Nat) : Int) - 1 := by omega
            by_cases h0 : 0 < j
            · have HQ : Hid (Nib.fin s (Nib.att s (j - 1)) + 1 = Nib.att s j) := by
                obtain ⟨i, rfl⟩ : ∃ i, j = i + 1 := ⟨j - 1, by omega⟩
                rfl
              have HBs : Hid (∀ ww, Calls Tryz.prog 223 #[.string s, .agg #[.int .i64 (Nib.att s j), .int .i64 (Nib.fin s (Nib.att s j))], .int .i64 (-1)] ww fun e w' => e = .returned (.tuple #[.agg #[.int .i64 (Nib.att s (j - 1)), .int .i64 (Nib.fin s (Nib.att s (j - 1)))], .bool true]) ∧ Below ww.heap.size ww w') := fun ww => tBeside_up s _ _ _ j ww hs rfl hj rfl h0
              have Hor : Hid (1 ≤ n ∨ (1 ≤ Nib.att s j ∧ Nib.bt s (Nib.att s j - 1) = 93)) := hor
              clear hor
              go_wp2_with fail
              refine (HBs.out _).mono ?_
              rintro r3 w3 ⟨rfl, h3⟩
              obtain ⟨hc3, hf3⟩ := bcell h3
              have hz3 := h3.size
              (try simp at hz3)
              have T3 : Two w3 (w1.heap.size) (Nib.att s j) (Nib.fin s (Nib.att s j)) := (by repeat (with_reducible first | exact T | refine t_o ?_ _ | refine Two.alloc ?_ _ | refine Two.drewN ?_ _ | refine Two.drew ?_ | refine Two.below ?_ h3))
              have T3_0 := T3.c0
              have T3_1 := T3.c1
              have T3_z := T3.fz
              have T3_l := T3.lt
              clear hc3 hf3
              go_wp2
              have hq9 := HQ.out
              go_roundg j
              case measure => omega
              case rel =>
                refine Or.inl ⟨j - 1, Nib.att s j, n, by omega, by omega, rfl, rfl, ?_, by omega, by omega, hn, Hor.out, hu, rfl, Two.set1 (Two.set0 T3 _) _, ?_⟩
                · have := Nib.fin_ge s (Nib.att s (j - 1)); omega
                · repeat (with_reducible first | exact Below.refl _ _ | refine b_s ?_ _ | refine b_a ?_ _ | refine Below.drew ?_ | refine below_drewN ?_ _ | refine b_t ?_ h3 | refine b_t ?_ hB)
            · have e0 : j = 0 := by omega
              have ea : Nib.att s j = 0 := by rw [e0]; rfl
              have HZ : Hid (X = -1) := by rw [Hid, ← hu.out, ea]; rfl
              have HBs : Hid (∀ ww, Calls Tryz.prog 223 #[.string s, .agg #[.int .i64 (Nib.att s j), .int .i64 (Nib.fin s (Nib.att s j))], .int .i64 (-1)] ww fun e w' => e = .returned (.tuple #[.agg #[.int .i64 (0), .int .i64 (0)], .bool false]) ∧ Below ww.heap.size ww w') := fun ww => tBeside_none s _ _ _ ww hs (Or.inr rfl) (fun h => by omega) (fun _ => by omega)
              clear ea e0 hor hu
              go_wp2_with fail
              refine (HBs.out _).mono ?_
              rintro r3 w3 ⟨rfl, h3⟩
              obtain ⟨hc3, hf3⟩ := bcell h3
              have hz3 := h3.size
              (try simp at hz3)
              have T3 : Two w3 (w1.heap.size) (Nib.att s j) (Nib.fin s (Nib.att s j)) := (by repeat (with_reducible first | exact T | refine t_o ?_ _ | refine Two.alloc ?_ _ | refine Two.drewN ?_ _ | refine Two.drew ?_ | refine Two.below ?_ h3))
              have T3_0 := T3.c0
              have T3_1 := T3.c1
              have T3_z := T3.fz
              have T3_l := T3.lt
              clear hc3 hf3
              go_wp2
              go_roundg 0
              case measure => omega
              case rel =>
                refine Or.inr ⟨HZ, rfl, ?_⟩
                repeat (with_reducible first | exact Below.refl _ _ | refine b_s ?_ _ | refine b_a ?_ _ | refine Below.drew ?_ | refine below_drewN ?_ _ | refine b_t ?_ h3 | refine b_t ?_ hB)
      · have hKI : ¬ ((Nib.fin s (Nib.att s j) : Nat) : Int) - 1 < (K : Int) - 1 := by omega
        have hKI2 : (K : Int) - 1 ≤ ((Nib.fin s (Nib.att s j) : Nat) : Int) - 1 := by omega
        clear hKI
        go_wp2
        go_loopg [2, 3] (K - Nib.att s j) (fun g2 pl dp wx => ∃ k n : Nat, Nib.att s j ≤ k ∧ k ≤ Nib.fin s (Nib.att s j) ∧ g2 = k - Nib.att s j ∧ pl = .int .i64 ((k : Int) - 1) ∧ dp = .int .i64 n ∧ n + k ≤ 1002 ∧ (1 ≤ n ∨ (1 ≤ k ∧ Nib.bt s (k - 1) = 93)) ∧ Hid (Nib.mtD s 93 91 n k = X) ∧ wx = wr)
        case atStart => exact ⟨K, m, by omega, by omega, rfl, by first | rfl | (congr 1; omega), rfl, by omega, hor, hu, rfl⟩
        case round =>
          clear hu hor hmb
          obtain ⟨k, n, hk1, hk2, hk3, rfl, rfl, hn, hor, hu, rfl⟩ := hrel
          by_cases hlt : Nib.att s j < k
          · obtain ⟨i, rfl⟩ : ∃ i, k = i + 1 := ⟨k - 1, by omega⟩
            have e1 : ((i + 1 : Nat) : Int) - 1 = (i : Int) := by omega
            rw [e1]
            have his : i < s.size := by omega
            have hle' : ((Nib.att s j : Nat) : Int) ≤ (i : Int) := by omega
            have hlt' : (i : Int) < ((Nib.fin s (Nib.att s j) : Nat) : Int) := by omega
            rw [Nat.add_sub_cancel] at hor
            by_cases hO : Nib.bt s i = 93
            · have hcc : (((s[i]'his).toNat : Int) == 93) = true := by rw [← Nib.bt_in his]; simp [hO]
              have HS : Hid (Nib.mtD s 93 91 ((n + 1 : Nat) : Int) i = X) := by
                rw [Hid, ← hu.out]
                have e : Nib.dep s 93 91 n i = ((n + 1 : Nat) : Int) := by unfold Nib.dep; rw [if_pos hO, if_neg (by omega)]; omega
                simp only [Nib.mtD]
                rw [e, if_neg (by omega)]
              clear hu hor hO e1
              go_wp2
              go_roundg (i - Nib.att s j)
              case measure => omega
              case rel => exact ⟨i, n + 1, by omega, by omega, rfl, by first | rfl | (congr 1; omega), by go_num, by omega, Or.inl (by omega), HS, rfl⟩
            · have hcc : (((s[i]'his).toNat : Int) == 93) = false := by rw [← Nib.bt_in his]; simp [hO]
              have hn1 : 1 ≤ n := by
                rcases hor with h | h
                · exact h
                · exact absurd h.2 hO
              by_cases hC : Nib.bt s i = 91
              · have hcd : (((s[i]'his).toNat : Int) == 91) = true := by rw [← Nib.bt_in his]; simp [hC]
                have e : Nib.dep s 93 91 n i = (n : Int) - 1 := by unfold Nib.dep; rw [if_neg hO, if_pos hC]; omega
                by_cases hn2 : n = 1
                · have HS : Hid (X = (i : Int)) := by
                    rw [Hid, ← hu.out]
                    simp only [Nib.mtD]
                    rw [e, if_pos (by omega)]
                  subst hn2
                  clear hu hor hO hC e e1
                  go_wp2
                  (try rw [Exit.noGoto_ret])
                  all_goals
                    first
                      | (refine bodyPost_ret (v := .tuple #[.int .i64 i, .bool true]) (by simp [results, Tryz.results287, go_sem]) rfl ⟨by rw [HS.out]; unfold mtI mtB; rw [if_neg (by omega), decide_eq_true (by omega)], ?_⟩ <;> repeat (with_reducible first | exact Below.refl _ _ | refine b_s ?_ _ | refine b_a ?_ _ | refine Below.drew ?_ | refine below_drewN ?_ _ | refine b_t ?_ hB))
                · have HS : Hid (Nib.mtD s 93 91 ((n - 1 : Nat) : Int) i = X) := by
                    rw [Hid, ← hu.out]
                    simp only [Nib.mtD]
                    rw [e, if_neg (by omega), show ((n - 1 : Nat) : Int) = (n : Int) - 1 by omega]
                  have hm0 : (((n : Int) - 1) == 0) = false := by simp; omega
                  clear hu hor hO hC e e1
                  go_wp2
                  go_roundg (i - Nib.att s j)
                  case measure => omega
                  case rel => exact ⟨i, n - 1, by omega, by omega, rfl, by first | rfl | (congr 1; omega), by first | rfl | (congr 1; omega), by omega, Or.inl (by omega), HS, rfl⟩
              · have hcd : (((s[i]'his).toNat : Int) == 91) = false := by rw [← Nib.bt_in his]; simp [hC]
                have HS : Hid (Nib.mtD s 93 91 (n : Int) i = X) := by
                  rw [Hid, ← hu.out]
                  have e : Nib.dep s 93 91 n i = (n : Int) := by unfold Nib.dep; rw [if_neg hO, if_neg hC]; omega
                  simp only [Nib.mtD]
                  rw [e, if_neg (by omega)]
                clear hu hor hO hC e1
                go_wp2
                go_roundg (i - Nib.att s j)
                case measure => omega
                case rel => exact ⟨i, n, by omega, by omega, rfl, by first | rfl | (congr 1; omega), rfl, by omega, Or.inl hn1, HS, rfl⟩
          · have ek : k = Nib.att s j := by omega
            subst ek
            have hge : ¬ ((Nib.att s j : Nat) : Int) ≤ ((Nib.att s j : Nat) : Int) - 1 := by omega
            by_cases h0 : 0 < j
            · have HQ : Hid (Nib.fin s (Nib.att s (j - 1)) + 1 = Nib.att s j) := by
                obtain ⟨i, rfl⟩ : ∃ i, j = i + 1 := ⟨j - 1, by omega⟩
                rfl
              have HBs : Hid (∀ ww, Calls Tryz.prog 223 #[.string s, .agg #[.int .i64 (Nib.att s j), .int .i64 (Nib.fin s (Nib.att s j))], .int .i64 (-1)] ww fun e w' => e = .returned (.tuple #[.agg #[.int .i64 (Nib.att s (j - 1)), .int .i64 (Nib.fin s (Nib.att s (j - 1)))], .bool true]) ∧ Below ww.heap.size ww w') := fun ww => tBeside_up s _ _ _ j ww hs rfl hj rfl h0
              have Hor : Hid (1 ≤ n ∨ (1 ≤ Nib.att s j ∧ Nib.bt s (Nib.att s j - 1) = 93)) := hor
              clear hor
              go_wp2_with fail
              refine (HBs.out _).mono ?_
              rintro r3 w3 ⟨rfl, h3⟩
              obtain ⟨hc3, hf3⟩ := bcell h3
              have hz3 := h3.size
              (try simp at hz3)
              have T3 : Two w3 (w1.heap.size) (Nib.att s j) (Nib.fin s (Nib.att s j)) := (by repeat (with_reducible first | exact T | refine t_o ?_ _ | refine Two.alloc ?_ _ | refine Two.drewN ?_ _ | refine Two.drew ?_ | refine Two.below ?_ h3))
              have T3_0 := T3.c0
              have T3_1 := T3.c1
              have T3_z := T3.fz
              have T3_l := T3.lt
              clear hc3 hf3
              go_wp2
              have hq9 := HQ.out
              go_roundg j
              case measure => omega
              case rel =>
                refine Or.inl ⟨j - 1, Nib.att s j, n, by omega, by omega, rfl, rfl, ?_, by omega, by omega, hn, Hor.out, hu, rfl, Two.set1 (Two.set0 T3 _) _, ?_⟩
                · have := Nib.fin_ge s (Nib.att s (j - 1)); omega
                · repeat (with_reducible first | exact Below.refl _ _ | refine b_s ?_ _ | refine b_a ?_ _ | refine Below.drew ?_ | refine below_drewN ?_ _ | refine b_t ?_ h3 | refine b_t ?_ hB)
            · have e0 : j = 0 := by omega
              have ea : Nib.att s j = 0 := by rw [e0]; rfl
              have HZ : Hid (X = -1) := by rw [Hid, ← hu.out, ea]; rfl
              have HBs : Hid (∀ ww, Calls Tryz.prog 223 #[.string s, .agg #[.int .i64 (Nib.att s j), .int .i64 (Nib.fin s (Nib.att s j))], .int .i64 (-1)] ww fun e w' => e = .returned (.tuple #[.agg #[.int .i64 (0), .int .i64 (0)], .bool false]) ∧ Below ww.heap.size ww w') := fun ww => tBeside_none s _ _ _ ww hs (Or.inr rfl) (fun h => by omega) (fun _ => by omega)
              clear ea e0 hor hu
              go_wp2_with fail
              refine (HBs.out _).mono ?_
              rintro r3 w3 ⟨rfl, h3⟩
              obtain ⟨hc3, hf3⟩ := bcell h3
              have hz3 := h3.size
              (try simp at hz3)
              have T3 : Two w3 (w1.heap.size) (Nib.att s j) (Nib.fin s (Nib.att s j)) := (by repeat (with_reducible first | exact T | refine t_o ?_ _ | refine Two.alloc ?_ _ | refine Two.drewN ?_ _ | refine Two.drew ?_ | refine Two.below ?_ h3))
              have T3_0 := T3.c0
              have T3_1 := T3.c1
              have T3_z := T3.fz
              have T3_l := T3.lt
              clear hc3 hf3
              go_wp2
              go_roundg 0
              case measure => omega
              case rel =>
                refine Or.inr ⟨HZ, rfl, ?_⟩
                repeat (with_reducible first | exact Below.refl _ _ | refine b_s ?_ _ | refine b_a ?_ _ | refine Below.drew ?_ | refine below_drewN ?_ _ | refine b_t ?_ h3 | refine b_t ?_ hB)
    · go_wp2
      (try rw [Exit.noGoto_ret])
      all_goals
        first
          | (refine bodyPost_ret (v := .tuple #[.int .i64 0, .bool false]) (by simp [results, Tryz.results287, go_sem]) rfl ⟨by rw [HZ.out]; rfl, ?_⟩ <;> repeat (with_reducible first | exact Below.refl _ _ | refine b_s ?_ _ | refine b_a ?_ _ | refine Below.drew ?_ | refine below_drewN ?_ _ | refine b_t ?_ hB))
end Go.Proofs.YtlendfhehhacpaaGreat
