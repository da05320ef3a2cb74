/- A part. -/
import Derived.Test.YtlendfhehhacpaaGreatU25
import Derived.Test.YtlendfhehhacpaaGreatU26
import Derived.WalkMore
import Derived.Test.YtlendfhehhacpaaGreatU22
import Derived.Maps.Keyed
set_option linter.unusedVariables false
set_option linter.unusedSimpArgs false
set_option maxRecDepth 100000
set_option maxHeartbeats 8000000
namespace Go.Proofs.YtlendfhehhacpaaGreat
open Go.RowKit Nib Tryz
structure NbAt (w : World) (b r d : Nat) (p : Pg) (tv : Value) (n : Nat) (dg : ByteArray) : Prop where
 bd : BdAt w b r d tv dg
 rd : RdAt w r d p
 ow : ∃ xs, w.ownsRow 0 5 1 tv n xs
 br : b ≠ r
 bd' : b ≠ d
 tb : tv.ownBlock ≠ some b
 tr : tv.ownBlock ≠ some r
 td : tv.ownBlock ≠ some d
theorem mem_own {tv : Value} {k : Nat} : k ∈ own tv ↔ tv.ownBlock = some k := by
 unfold own
 cases tv.ownBlock <;> simp [eq_comm]
theorem qt42 {P : Prop} (h : P := by
  have := HEI.out; have h9 : att s (j + 1) = fin s (att s j) + 1 := rfl; omega
 ) : P := h
theorem qt3 {P : Prop} (h : P := by
  clear hu
  obtain ⟨i, hi1, hi2, rfl, hu, rfl⟩ := hrel
  have hfl := fin_le (att_in hj).1
  by_cases hlt : i < fin s (att s j)
  ·have his : i < s.size := by omega
   have hnl := fin_att_no (s := s) (j := j) (i := i) qo hlt
   have HI : Hid (∀ ww, Calls Tryz.prog 247 #[.string s, .int .i64 i] ww fun e w' => e = .returned (.bool (!spc (bt s i))) ∧ w' = ww) := by
    intro ww
    have := sHasInk_any s i i ww hs rfl qo
    rw [decide_eq_true his, Bool.true_and] at this
    exact this
   cases hsp : spc (bt s i) with
   | false =>
    have HS : Hid (X = i) := by
     rw [Hid, ← hu.out, up_stop]
     intro h; rw [hC1.out i hsp] at h; exact absurd h.2 qi
    rw [hsp] at HI
    clear hsp hu
    go_wp2_with fail
    refine (HI.out _).mono ?_
    rintro e w' ⟨rfl, rfl⟩
    go_wp2
    (try rw [Exit.noGoto_ret])
    all_goals
     first
      | (exact qV (.int .i64 i) (by simp [results, results282, go_sem]) (ret_int (by rw [HS.out])))
   | true =>
    have HS : Hid (Nib.up C s.size (i + 1) = X) := by
     rw [Hid, ← hu.out]
     exact (up_step his (hC2.out i qo his hsp (Or.inr (Or.inl (emp_no his hnl))))).symm
    rw [hsp] at HI
    clear hsp hu
    go_wp2_with fail
    refine (HI.out _).mono ?_
    rintro e w' ⟨rfl, rfl⟩
    go_wp2
    go_roundg (fin s (att s j) - (i + 1))
    case measure => omega
    case rel => exact ⟨i + 1, by omega, by omega, by go_num, HS, rfl⟩
  ·have ei : i = fin s (att s j) := by omega
   have HEI : Hid (i = fin s (att s j)) := ei
   clear ei
   by_cases hne : j + 1 < lns s
   ·have hef := fin_lt_of hne
    have HS : Hid (Nib.up C s.size (att s (j + 1)) = X) := by
     have hfs : fin s (att s j) < s.size := hef
     have hC : C (fin s (att s j)) = true := by
      refine hC2.out _ qo hfs (nl_spc (fin_nl hfs)) ?_
      rcases hor with h | h | h
      ·by_cases hq2 : fin s (att s j) = q
       ·exact Or.inr (Or.inr hq2)
       ·exact Or.inr (Or.inl (emp_fin hj qo))
      ·exact Or.inl h
      ·exact Or.inr (Or.inl (emp_fin hj (emp_att_ne hj h)))
     rw [Hid, ← hu.out, HEI.out]
     exact (up_step hfs hC).symm
    clear hu
    have HBs : qH 223 #[.string s, .agg #[.int .i64 (att s j), .int .i64 (fin s (att s j))], .int .i64 1] (.tuple #[.agg #[.int .i64 (att s (j + 1)), .int .i64 (fin s (att s (j + 1)))], .bool true]) := fun ww => tBeside_down s _ _ _ j ww hs rfl rfl rfl hne
    have HE1 : qH 185 #[.agg #[.int .i64 (att s (j + 1)), .int .i64 (fin s (att s (j + 1)))]] (.bool (emp s (att s (j + 1)))) := by
     intro ww; rw [emp_att hne]; exact tIsEmpty_any _ _ ww
    cases st with
    | false =>
     go_wp2_with fail
     refine (HBs.out _).mono ?_
     rintro r2 w2 ⟨rfl, h2⟩
     obtain ⟨hc2, hf2, hz2⟩ := qb h2
     (try simp at hz2)
     have T2 : Two w2 (w1.heap.size) (att s j) (fin s (att s j)) := qTw
     have ⟨T2_0, T2_1, T2_z, T2_l⟩ := T2
     clear hc2 hf2
     go_wp2
     go_roundg (lns s - (j + 1))
     case measure => omega
     case rel =>
      refine Or.inl ⟨j + 1, i, att s (j + 1), hne, by omega, rfl, ?_, fin_ge _ _, ?_, Or.inr (Or.inl (by first | rfl | trivial)), HS, rfl, Two.set1 (Two.set0 T2 _) _, ?_⟩
      ·exact qt42
      ·exact qt42
      ·repeat exact qB
    | true =>
     cases hem : emp s (att s (j + 1)) with
     | false =>
      rw [hem] at HE1
      have HEM : Hid (emp s (att s (j + 1)) = false) := hem
      clear hem
      go_wp2_with fail
      refine (HBs.out _).mono ?_
      rintro r2 w2 ⟨rfl, h2⟩
      obtain ⟨hc2, hf2, hz2⟩ := qb h2
      (try simp at hz2)
      have T2 : Two w2 (w1.heap.size) (att s j) (fin s (att s j)) := qTw
      have ⟨T2_0, T2_1, T2_z, T2_l⟩ := T2
      have U : Two ((w2.setCell ⟨w1.heap.size, 0, none⟩ (.int .i64 (att s (j + 1) : Nat))).setCell ⟨w1.heap.size, 1, none⟩ (.int .i64 (fin s (att s (j + 1)) : Nat))) w1.heap.size (att s (j + 1) : Nat) (fin s (att s (j + 1)) : Nat) := Two.set1 (Two.set0 T2 _) _
      clear hc2 hf2
      go_wp2_with fail
      refine (HE1.out _).mono ?_
      rintro r3 w3 ⟨rfl, h3⟩
      obtain ⟨hc3, hf3, hz3⟩ := qb h3
      (try simp at hz3)
      have U3 : Two w3 (w1.heap.size) (att s (j + 1)) (fin s (att s (j + 1))) := qTw
      have ⟨U3_0, U3_1, U3_z, U3_l⟩ := U3
      clear hc3 hf3
      go_wp2
      go_roundg (lns s - (j + 1))
      case measure => omega
      case rel =>
       refine Or.inl ⟨j + 1, i, att s (j + 1), hne, by omega, rfl, ?_, fin_ge _ _, ?_, Or.inr (Or.inr HEM.out), HS, rfl, U3, ?_⟩
       ·exact qt42
       ·exact qt42
       ·repeat exact qB
     | true =>
      rw [hem] at HE1
      have HZ : Hid (X = att s (j + 1)) := by
       rw [Hid, ← HS.out, up_stop]
       intro h
       have h9 : att s (j + 1) = fin s (att s j) + 1 := rfl
       have h8 := HEI.out
       rw [hC3.out rfl _ qo hem] at h
       exact absurd h.2 qi
      clear hem HS
      go_wp2_with fail
      refine (HBs.out _).mono ?_
      rintro r2 w2 ⟨rfl, h2⟩
      obtain ⟨hc2, hf2, hz2⟩ := qb h2
      (try simp at hz2)
      have T2 : Two w2 (w1.heap.size) (att s j) (fin s (att s j)) := qTw
      have ⟨T2_0, T2_1, T2_z, T2_l⟩ := T2
      have U : Two ((w2.setCell ⟨w1.heap.size, 0, none⟩ (.int .i64 (att s (j + 1) : Nat))).setCell ⟨w1.heap.size, 1, none⟩ (.int .i64 (fin s (att s (j + 1)) : Nat))) w1.heap.size (att s (j + 1) : Nat) (fin s (att s (j + 1)) : Nat) := Two.set1 (Two.set0 T2 _) _
      clear hc2 hf2
      go_wp2_with fail
      refine (HE1.out _).mono ?_
      rintro r3 w3 ⟨rfl, h3⟩
      obtain ⟨hc3, hf3, hz3⟩ := qb h3
      (try simp at hz3)
      have U3 : Two w3 (w1.heap.size) (att s (j + 1)) (fin s (att s (j + 1))) := qTw
      have ⟨U3_0, U3_1, U3_z, U3_l⟩ := U3
      clear hc3 hf3
      go_wp2
      (try rw [Exit.noGoto_ret])
      all_goals
       first
        | (exact qV (.int .i64 (att s (j + 1) : Nat)) (by simp [results, results282, go_sem]) (ret_int (by rw [HZ.out])))
   ·have HZ : Hid (X = i) := by
     have hF := fin_last (s := s) (m := j) qo
     rw [Hid, ← hu.out, up_stop]
     have := HEI.out
     intro h; omega
    clear hu
    have HBs : qH 223 #[.string s, .agg #[.int .i64 (att s j), .int .i64 (fin s (att s j))], .int .i64 1] (.tuple #[.agg #[.int .i64 (0), .int .i64 (0)], .bool false]) := fun ww => tBeside_none s _ _ _ ww hs (Or.inl rfl) (fun _ => by have := fin_last (s := s) (m := j) qo; omega) (fun h => by omega)
    go_wp2_with fail
    refine (HBs.out _).mono ?_
    rintro r2 w2 ⟨rfl, h2⟩
    obtain ⟨hc2, hf2, hz2⟩ := qb h2
    (try simp at hz2)
    have T2 : Two w2 (w1.heap.size) (att s j) (fin s (att s j)) := qTw
    have ⟨T2_0, T2_1, T2_z, T2_l⟩ := T2
    clear hc2 hf2
    go_wp2
    go_roundg 0
    case measure => omega
    case rel =>
     refine Or.inr ⟨by rw [HZ.out], rfl, ?_⟩
     repeat exact qB
 ) : P := h
theorem sNextInk_any (s : ByteArray) (q : Nat) (st : Bool) (C : Nat → Bool) (w : World) (hs : s.size ≤ 1000) (hq : q ≤ s.size)
  (hC1 : Hid (∀ i, spc (bt s i) = false → C i = false)) (hC2 : Hid (∀ i, q ≤ i → i < s.size → spc (bt s i) = true → (st = false ∨ emp s i = false ∨ i = q) → C i = true)) (hC3 : Hid (st = true → ∀ i, q < i → emp s i = true → C i = false)) :
  qC 282 #[.string s, .int .i64 q, .bool st] w (.int .i64 (Nib.up C s.size q)) := by
 generalize hX : Nib.up C s.size q = X
 have HX : Hid (Nib.up C s.size q = X) := hX
 clear hX
 have hm := lin_lt hq
 have HL : qH 195 #[.string s, .int .i64 q] (.agg #[.int .i64 (att s (lin s q)), .int .i64 (fin s (att s (lin s q)))]) := by
  intro ww
  have := tLine_any s q q ww hs rfl hq
  rw [fin_eq hq, beg_eq hq] at this
  exact this
 go_enter func282, ntmps282
 go_wp2_with fail
 go_step3
 go_wp2_with fail
 refine (HL.out _).mono ?_
 rintro e w1 ⟨rfl, h1⟩
 obtain ⟨hc1, hf1, hz1⟩ := qb h1
 try simp at hz1
 go_wp2
 go_step3
 go_wp2
 go_loopg [1, 8] (lns s - lin s q) (fun g pl mo wr => (∃ j pv b : Nat, j < lns s ∧ g + j = lns s ∧ pl = .int .i64 pv ∧ b = max pv (att s j) ∧ b ≤ fin s (att s j) ∧ q ≤ b ∧ (b = q ∨ st = false ∨ emp s (att s j) = false) ∧ Hid (Nib.up C s.size b = X) ∧ mo = .bool true ∧ Two wr w1.heap.size (att s j) (fin s (att s j)) ∧ Below w.heap.size w wr) ∨ (pl = .int .i64 X ∧ mo = .bool false ∧ Below w.heap.size w wr))
 case atStart =>
  refine Or.inl ⟨lin s q, q, q, hm, ?_, rfl, ?_, ?_, Nat.le_refl _, Or.inl rfl, HX, rfl, Two.new _ _ _ _, ?_⟩
  ·omega
  ·rw [← beg_eq hq]; have := beg_le s q; omega
  ·rw [← fin_eq hq]; exact fin_ge s q
  ·repeat exact qB
 case round =>
  rcases hrel with ⟨j, pv, b, hj, hg, rfl, hb, hbf, hqb, hor, hu, rfl, T, hB⟩ | ⟨rfl, rfl, hB⟩
  ·have t0 := (T).c0
   have t1 := (T).c1
   have tz := (T).fz
   have tl := (T).lt
   by_cases hpv : (pv : Int) < (att s j : Nat)
   ·have eb : b = att s j := by omega
    subst eb
    clear hb
    go_wp2
    go_loopg [1] (fin s (att s j) - att s j) (fun g2 pl wx => ∃ i : Nat, att s j ≤ i ∧ i + g2 = fin s (att s j) ∧ pl = .int .i64 i ∧ Hid (Nib.up C s.size i = X) ∧ wx = wr)
    case atStart => exact ⟨att s j, Nat.le_refl _, by omega, rfl, hu, rfl⟩
    case round =>
     exact qt3
   ·have eb : pv = b := by omega
    have hpv' : ((att s j : Nat) : Int) ≤ (pv : Int) := by omega
    subst eb
    clear hb hpv
    go_wp2
    go_loopg [1] (fin s (att s j) - pv) (fun g2 pl wx => ∃ i : Nat, pv ≤ i ∧ i + g2 = fin s (att s j) ∧ pl = .int .i64 i ∧ Hid (Nib.up C s.size i = X) ∧ wx = wr)
    case atStart => exact ⟨pv, Nat.le_refl _, by omega, rfl, hu, rfl⟩
    case round =>
     exact qt3
  ·go_wp2
   (try rw [Exit.noGoto_ret])
   all_goals
    first
     | (exact qV (.int .i64 X) (by simp [results, results282, go_sem]) rfl)
def mtI (x : Int) : Int := if x < 0 then 0 else x
def mtB (x : Int) : Bool := decide (0 ≤ x)
theorem qt4 {P : Prop} (h : P := by
  clear hu hor hmb
  obtain ⟨i, n, hi1, hi2, rfl, rfl, hn, hor, hu, rfl⟩ := hrel
  have hfl := fin_le (att_in hj).1
  have hle' : ((att s j : Nat) : Int) ≤ (i : Int) := by omega
  by_cases hlt : i < fin s (att s j)
  ·have his : i < s.size := by omega
   have ef : s.size - i = (s.size - (i + 1)) + 1 := by omega
   by_cases h40 : bt s i = cl
   ·have hcc : (((s[i]'his).toNat : Int) == cl) = true := by rw [← bt_in his]; simp [h40]
    have HS : Hid (mtU s cl op (s.size - (i + 1)) ((n + 1 : Nat) : Int) (i + 1) = X) := by
     rw [Hid, ← hu.out, ef]
     have e : dep s cl op n i = ((n + 1 : Nat) : Int) := by unfold dep; rw [if_pos h40, if_neg qo]; omega
     simp only [mtU]
     rw [if_pos his, e, if_neg qo]
    clear hu hor h40 ef
    go_wp2
    go_roundg (fin s (att s j) - (i + 1))
    case measure => omega
    case rel => exact ⟨i + 1, n + 1, by omega, by omega, by go_num, by go_num, by omega, Or.inl qo, HS, rfl⟩
   ·have hcc : (((s[i]'his).toNat : Int) == cl) = false := by rw [← bt_in his]; simp [h40]
    have hn1 : 1 ≤ n := by
     rcases hor with h | h
     ·exact h
     ·exact absurd h h40
    by_cases h41 : bt s i = op
    ·have hcd : (((s[i]'his).toNat : Int) == op) = true := by rw [← bt_in his]; simp [h41]
     have e : dep s cl op n i = (n : Int) - 1 := by unfold dep; rw [if_neg h40, if_pos h41]; omega
     by_cases hn2 : n = 1
     ·have HS : Hid (X = (i : Int)) := by
       rw [Hid, ← hu.out, ef]
       simp only [mtU]
       rw [if_pos his, e, if_pos qo]
      subst hn2
      clear hu hor h40 h41 e ef
      go_wp2
      (try rw [Exit.noGoto_ret])
      all_goals
       first
        | (exact qV (.tuple #[.int .i64 i, .bool true]) (by simp [results, results287, go_sem]) (by rw [HS.out]; unfold mtI mtB; rw [if_neg qo, decide_eq_true qo]))
     ·have HS : Hid (mtU s cl op (s.size - (i + 1)) ((n - 1 : Nat) : Int) (i + 1) = X) := by
       rw [Hid, ← hu.out, ef]
       simp only [mtU]
       rw [if_pos his, e, if_neg qo, show ((n - 1 : Nat) : Int) = (n : Int) - 1 by omega]
      have hm0 : (((n : Int) - 1) == 0) = false := by simp; omega
      clear hu hor h40 h41 e ef
      go_wp2
      go_roundg (fin s (att s j) - (i + 1))
      case measure => omega
      case rel => exact ⟨i + 1, n - 1, by omega, by omega, by go_num, by first | rfl | (congr 1; omega), by omega, Or.inl qo, HS, rfl⟩
    ·have hcd : (((s[i]'his).toNat : Int) == op) = false := by rw [← bt_in his]; simp [h41]
     have HS : Hid (mtU s cl op (s.size - (i + 1)) (n : Int) (i + 1) = X) := by
      rw [Hid, ← hu.out, ef]
      have e : dep s cl op n i = (n : Int) := by unfold dep; rw [if_neg h40, if_neg h41]; omega
      simp only [mtU]
      rw [if_pos his, e, if_neg qo]
     clear hu hor h40 h41 ef
     go_wp2
     go_roundg (fin s (att s j) - (i + 1))
     case measure => omega
     case rel => exact ⟨i + 1, n, by omega, by omega, by go_num, rfl, by omega, Or.inl hn1, HS, rfl⟩
  ·have HEI : Hid (i = fin s (att s j)) := (by omega : i = fin s (att s j))
   have hgeI : ¬ (i : Int) < ((fin s (att s j) : Nat) : Int) := by omega
   by_cases hne : j + 1 < lns s
   ·have hef := fin_lt_of hne
    have h10 : bt s i = 10 := by
     have h := fin_nl hef
     rw [← HEI.out] at h
     unfold Nib.nl at h
     simpa using h
    have hn1 : 1 ≤ n := by
     rcases hor with h | h
     ·exact h
     ·omega
    have HS : Hid (mtU s cl op (s.size - att s (j + 1)) (n : Int) (att s (j + 1)) = X) := by
     have h9 : att s (j + 1) = i + 1 := by rw [HEI.out]; rfl
     have his : i < s.size := by have := HEI.out; omega
     rw [Hid, ← hu.out, h9, show s.size - i = (s.size - (i + 1)) + 1 by omega]
     have e : dep s cl op n i = (n : Int) := by unfold dep; rw [if_neg qo, if_neg qo]; omega
     simp only [mtU]
     rw [if_pos his, e, if_neg qo]
    clear hu hor h10
    have HBs : qH 223 #[.string s, .agg #[.int .i64 (att s j), .int .i64 (fin s (att s j))], .int .i64 1] (.tuple #[.agg #[.int .i64 (att s (j + 1)), .int .i64 (fin s (att s (j + 1)))], .bool true]) := fun ww => tBeside_down s _ _ _ j ww hs rfl rfl rfl hne
    go_wp2_with fail
    refine (HBs.out _).mono ?_
    rintro r2 w2 ⟨rfl, h2⟩
    obtain ⟨hc2, hf2, hz2⟩ := qb h2
    (try simp at hz2)
    have T2 : Two w2 (w1.heap.size) (att s j) (fin s (att s j)) := qTw
    have ⟨T2_0, T2_1, T2_z, T2_l⟩ := T2
    clear hc2 hf2
    go_wp2
    go_roundg (lns s - (j + 1))
    case measure => omega
    case rel =>
     have h9 : att s (j + 1) = i + 1 := by rw [HEI.out]; rfl
     refine Or.inl ⟨j + 1, i, att s (j + 1), n, hne, by omega, rfl, rfl, by omega, fin_ge _ _, by omega, Or.inl hn1, HS, rfl, Two.set1 (Two.set0 T2 _) _, ?_⟩
     repeat exact qB
   ·have hF := fin_last (s := s) (m := j) qo
    have HZ : Hid (X = -1) := by
     rw [Hid, ← hu.out, show s.size - i = 0 by have := HEI.out; omega]
     rfl
    clear hu hor
    have HBs : qH 223 #[.string s, .agg #[.int .i64 (att s j), .int .i64 (fin s (att s j))], .int .i64 1] (.tuple #[.agg #[.int .i64 (0), .int .i64 (0)], .bool false]) := fun ww => tBeside_none s _ _ _ ww hs (Or.inl rfl) (fun _ => by omega) (fun h => by omega)
    clear hF
    go_wp2_with fail
    refine (HBs.out _).mono ?_
    rintro r2 w2 ⟨rfl, h2⟩
    obtain ⟨hc2, hf2, hz2⟩ := qb h2
    (try simp at hz2)
    have T2 : Two w2 (w1.heap.size) (att s j) (fin s (att s j)) := qTw
    have ⟨T2_0, T2_1, T2_z, T2_l⟩ := T2
    clear hc2 hf2
    go_wp2
    go_roundg 0
    case measure => omega
    case rel =>
     refine Or.inr ⟨HZ, rfl, ?_⟩
     repeat exact qB
 ) : P := h
theorem tSeek_gen (cl op : Int) (I J : Nat) (hix : firstIdx ⟨#[40, 41, 91, 93, 123, 125]⟩ cl.toNat.toUInt8 = I) (hbx : bits BinOp.xor IntKind.i64 I 1 = J) (hJ : J < 6) (hel : (((⟨#[40, 41, 91, 93, 123, 125]⟩ : ByteArray)[J]'hJ).toNat : Int) = op) (hpar : (((I : Int) % 2) == 1) = false) (hne : (op == cl) = false) (hn10 : 32 ≤ cl) (hn11 : 32 ≤ op) (hn12 : ¬ op = cl) (s : ByteArray) (q d : Nat) (w : World) (hs : s.size ≤ 1000) (hq : q < s.size) (hd : d ≤ 1) (hd0 : 1 ≤ d ∨ bt s q = cl) :
  qC 287 #[.string s, .int .u8 cl, .int .i64 q, .int .i64 d] w (.tuple #[.int .i64 (mtI (mtU s cl op (s.size - q) d q)), .bool (mtB (mtU s cl op (s.size - q) d q))]) := by
 generalize hX : mtU s cl op (s.size - q) d q = X
 have HX : Hid (mtU s cl op (s.size - q) d q = X) := hX
 clear hX
 have hq' : q ≤ s.size := by omega
 have hm := lin_lt hq'
 have HL : qH 195 #[.string s, .int .i64 q] (.agg #[.int .i64 (att s (lin s q)), .int .i64 (fin s (att s (lin s q)))]) := by
  intro ww
  have := tLine_any s q q ww hs rfl hq'
  rw [fin_eq hq', beg_eq hq'] at this
  exact this
 go_enter func287, ntmps287
 go_wp2_with fail
 go_step3
 go_wp2_with fail
 refine (indexByte_any ⟨#[40, 41, 91, 93, 123, 125]⟩ cl _).mono ?_
 rintro e w9 ⟨rfl, h9⟩
 have h9 := h9.symm
 subst h9
 rw [hix]
 go_wp2_with fail
 refine (HL.out _).mono ?_
 rintro e w1 ⟨rfl, h1⟩
 obtain ⟨hc1, hf1, hz1⟩ := qb h1
 try simp at hz1
 go_wp2
 go_step3
 go_wp2
 go_loopg [2, 3, 14] (lns s - lin s q) (fun g pl dp mo wr => (∃ j pv b m : Nat, j < lns s ∧ g + j = lns s ∧ pl = .int .i64 pv ∧ dp = .int .i64 m ∧ b = max pv (att s j) ∧ b ≤ fin s (att s j) ∧ m ≤ b + 1 ∧ (1 ≤ m ∨ bt s b = cl) ∧ Hid (mtU s cl op (s.size - b) m b = X) ∧ mo = .bool true ∧ Two wr w1.heap.size (att s j) (fin s (att s j)) ∧ Below w.heap.size w wr) ∨ (Hid (X = -1) ∧ mo = .bool false ∧ Below w.heap.size w wr))
 case atStart =>
  refine Or.inl ⟨lin s q, q, q, d, hm, ?_, rfl, rfl, ?_, ?_, by omega, hd0, HX, rfl, Two.new _ _ _ _, ?_⟩
  ·omega
  ·rw [← beg_eq hq']; have := beg_le s q; omega
  ·rw [← fin_eq hq']; exact fin_ge s q
  ·repeat exact qB
 case round =>
  rcases hrel with ⟨j, pv, b, m, hj, hg, rfl, rfl, hb, hbf, hmb, hor, hu, rfl, T, hB⟩ | ⟨HZ, rfl, hB⟩
  ·have t0 := (T).c0
   have t1 := (T).c1
   have tz := (T).fz
   have tl := (T).lt
   by_cases hpv : (pv : Int) < (att s j : Nat)
   ·have eb : b = att s j := by omega
    subst eb
    clear hb
    go_wp2
    go_loopg [2, 3] (fin s (att s j) - att s j) (fun g2 pl dp wx => ∃ i n : Nat, att s j ≤ i ∧ i + g2 = fin s (att s j) ∧ pl = .int .i64 i ∧ dp = .int .i64 n ∧ n ≤ i + 1 ∧ (1 ≤ n ∨ bt s i = cl) ∧ Hid (mtU s cl op (s.size - i) n i = X) ∧ wx = wr)
    case atStart => exact ⟨att s j, m, Nat.le_refl _, by omega, rfl, rfl, hmb, hor, hu, rfl⟩
    case round =>
     exact qt4
   ·have eb : pv = b := by omega
    have hpv' : ((att s j : Nat) : Int) ≤ (pv : Int) := by omega
    subst eb
    clear hb hpv
    go_wp2
    go_loopg [2, 3] (fin s (att s j) - pv) (fun g2 pl dp wx => ∃ i n : Nat, pv ≤ i ∧ i + g2 = fin s (att s j) ∧ pl = .int .i64 i ∧ dp = .int .i64 n ∧ n ≤ i + 1 ∧ (1 ≤ n ∨ bt s i = cl) ∧ Hid (mtU s cl op (s.size - i) n i = X) ∧ wx = wr)
    case atStart => exact ⟨pv, m, Nat.le_refl _, by omega, rfl, rfl, hmb, hor, hu, rfl⟩
    case round =>
     exact qt4
  ·go_wp2
   (try rw [Exit.noGoto_ret])
   all_goals
    first
     | (exact qV (.tuple #[.int .i64 0, .bool false]) (by simp [results, results287, go_sem]) (by rw [HZ.out]; rfl))
theorem tSeek_40 (s : ByteArray) (q d : Nat) (w : World) (hs : s.size ≤ 1000) (hq : q < s.size) (hd : d ≤ 1) (hd0 : 1 ≤ d ∨ bt s q = 40) :
  qC 287 #[.string s, .int .u8 40, .int .i64 q, .int .i64 d] w (.tuple #[.int .i64 (mtI (mtU s 40 41 (s.size - q) d q)), .bool (mtB (mtU s 40 41 (s.size - q) d q))]) :=
 tSeek_gen 40 41 0 1 qd qd qd qd qd qd qd qd qd s q d w hs hq hd hd0
theorem mBecome (r d : Nat) (p : Pg) (x : ByteArray) (w : World) (h : RdAt w r d p) (hx : x.size ≤ 1000) :
  Calls Tryz.prog 175 #[.pointer (some ⟨d, 0, none⟩), .string x] w fun e w' => e = .returned (.bool true) ∧ RdAt w' r d { p with t := x } ∧ Upd [d] w w' := by
 have H := h
 have HS := h.set_t x
 have c0 := h.dk.c0
 have fz := h.dk.fz
 have lt := h.dk.lt
 have hy : ((1000 : Int) < x.size) = False := by simp; omega
 generalize ({ p with t := x } : Pg) = p2 at *
 clear h hx
 go_enter func175, ntmps175
 go_wp2
 go_ret
 exact ⟨rfl, HS, Upd.setCell (Upd.refl _ _) (Or.inl qi) _⟩
theorem zero_register (w : World) : (zeroValue 99).run Tryz.prog w = .ok (.agg #[.string ⟨#[]⟩, .bool false]) w := by kernel_rfl
theorem check_u8 (e : Bool) (n : Nat) (c : Int) (w : World) : (Instr.checkKey e (n + 1) 5 (.int .u8 c)).run Tryz.prog w = .ok () w := by
 rw [Instr.checkKey]
 simp [run_underlying underlying5]
