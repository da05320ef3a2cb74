/- A part. -/
import Derived.Test.YtlendfhehhacpaaGreatQ14
import Derived.Test.YtlendfhehhacpaaGreatQ12
import Derived.Test.YtlendfhehhacpaaGreatQ11
set_option linter.unusedVariables false
set_option linter.unusedSimpArgs false
set_option maxRecDepth 100000
set_option maxHeartbeats 8000000
namespace Go.Proofs.YtlendfhehhacpaaGreat
open Go.RowKit Nib Tryz
def mtI (x : Int) : Int := if x < 0 then 0 else x
def mtB (x : Int) : Bool := decide (0 ≤ x)
theorem qt5 {P : Prop} (h : P := by
  clear hu hor hmb
  obtain ⟨i, n, hi1, hi2, rfl, rfl, hn, hor, hu, rfl⟩ := hrel
  have hfl := fin_le (att_in hj).1
  have hle' : ((att s j : Nat) : Int) ≤ (i : Int) := by omega
  by_cases hlt : i < fin s (att s j)
  ·have his : i < s.size := by omega
   have ef : s.size - i = (s.size - (i + 1)) + 1 := by omega
   by_cases h40 : bt s i = cl
   ·have hcc : (((s[i]'his).toNat : Int) == cl) = true := by rw [← bt_in his]; simp [h40]
    have HS : Hid (mtU s cl op (s.size - (i + 1)) ((n + 1 : Nat) : Int) (i + 1) = X) := by
     rw [Hid, ← hu.out, ef]
     have e : dep s cl op n i = ((n + 1 : Nat) : Int) := by unfold dep; rw [if_pos h40, if_neg qo]; omega
     simp only [mtU]
     rw [if_pos his, e, if_neg qo]
    clear hu hor h40 ef
    go_wp2
    go_roundg (fin s (att s j) - (i + 1))
    case measure => omega
    case rel => exact ⟨i + 1, n + 1, by omega, by omega, by go_num, by go_num, by omega, Or.inl qo, HS, rfl⟩
   ·have hcc : (((s[i]'his).toNat : Int) == cl) = false := by rw [← bt_in his]; simp [h40]
    have hn1 : 1 ≤ n := by
     rcases hor with h | h
     ·exact h
     ·exact absurd h h40
    by_cases h41 : bt s i = op
    ·have hcd : (((s[i]'his).toNat : Int) == op) = true := by rw [← bt_in his]; simp [h41]
     have e : dep s cl op n i = (n : Int) - 1 := by unfold dep; rw [if_neg h40, if_pos h41]; omega
     by_cases hn2 : n = 1
     ·have HS : Hid (X = (i : Int)) := by
       rw [Hid, ← hu.out, ef]
       simp only [mtU]
       rw [if_pos his, e, if_pos qo]
      subst hn2
      clear hu hor h40 h41 e ef
      go_wp2
      (try rw [Exit.noGoto_ret])
      all_goals
       first
        | (exact qV (.tuple #[.int .i64 i, .bool true]) (by simp [results, results287, go_sem]) (by rw [HS.out]; unfold mtI mtB; rw [if_neg qo, decide_eq_true qo]))
     ·have HS : Hid (mtU s cl op (s.size - (i + 1)) ((n - 1 : Nat) : Int) (i + 1) = X) := by
       rw [Hid, ← hu.out, ef]
       simp only [mtU]
       rw [if_pos his, e, if_neg qo, show ((n - 1 : Nat) : Int) = (n : Int) - 1 by omega]
      have hm0 : (((n : Int) - 1) == 0) = false := by simp; omega
      clear hu hor h40 h41 e ef
      go_wp2
      go_roundg (fin s (att s j) - (i + 1))
      case measure => omega
      case rel => exact ⟨i + 1, n - 1, by omega, by omega, by go_num, by first | rfl | (congr 1; omega), by omega, Or.inl qo, HS, rfl⟩
    ·have hcd : (((s[i]'his).toNat : Int) == op) = false := by rw [← bt_in his]; simp [h41]
     have HS : Hid (mtU s cl op (s.size - (i + 1)) (n : Int) (i + 1) = X) := by
      rw [Hid, ← hu.out, ef]
      have e : dep s cl op n i = (n : Int) := by unfold dep; rw [if_neg h40, if_neg h41]; omega
      simp only [mtU]
      rw [if_pos his, e, if_neg qo]
     clear hu hor h40 h41 ef
     go_wp2
     go_roundg (fin s (att s j) - (i + 1))
     case measure => omega
     case rel => exact ⟨i + 1, n, by omega, by omega, by go_num, rfl, by omega, Or.inl hn1, HS, rfl⟩
  ·have HEI : Hid (i = fin s (att s j)) := (by omega : i = fin s (att s j))
   have hgeI : ¬ (i : Int) < ((fin s (att s j) : Nat) : Int) := by omega
   by_cases hne : j + 1 < lns s
   ·have hef := fin_lt_of hne
    have h10 : bt s i = 10 := by
     have h := fin_nl hef
     rw [← HEI.out] at h
     unfold Nib.nl at h
     simpa using h
    have hn1 : 1 ≤ n := by
     rcases hor with h | h
     ·exact h
     ·omega
    have HS : Hid (mtU s cl op (s.size - att s (j + 1)) (n : Int) (att s (j + 1)) = X) := by
     have h9 : att s (j + 1) = i + 1 := by rw [HEI.out]; rfl
     have his : i < s.size := by have := HEI.out; omega
     rw [Hid, ← hu.out, h9, show s.size - i = (s.size - (i + 1)) + 1 by omega]
     have e : dep s cl op n i = (n : Int) := by unfold dep; rw [if_neg qo, if_neg qo]; omega
     simp only [mtU]
     rw [if_pos his, e, if_neg qo]
    clear hu hor h10
    have HBs : qH 223 #[.string s, .agg #[.int .i64 (att s j), .int .i64 (fin s (att s j))], .int .i64 1] (.tuple #[.agg #[.int .i64 (att s (j + 1)), .int .i64 (fin s (att s (j + 1)))], .bool true]) := fun ww => tBeside_down s _ _ _ j ww hs rfl rfl rfl hne
    go_wp2_with fail
    refine (HBs.out _).mono ?_
    rintro r2 w2 ⟨rfl, h2⟩
    obtain ⟨hc2, hf2, hz2⟩ := qb h2
    (try simp at hz2)
    have T2 : Two w2 (w1.heap.size) (att s j) (fin s (att s j)) := qTw
    have ⟨T2_0, T2_1, T2_z, T2_l⟩ := T2
    clear hc2 hf2
    go_wp2
    go_roundg (lns s - (j + 1))
    case measure => omega
    case rel =>
     have h9 : att s (j + 1) = i + 1 := by rw [HEI.out]; rfl
     refine Or.inl ⟨j + 1, i, att s (j + 1), n, hne, by omega, rfl, rfl, by omega, fin_ge _ _, by omega, Or.inl hn1, HS, rfl, Two.set1 (Two.set0 T2 _) _, ?_⟩
     repeat exact qB
   ·have hF := fin_last (s := s) (m := j) qo
    have HZ : Hid (X = -1) := by
     rw [Hid, ← hu.out, show s.size - i = 0 by have := HEI.out; omega]
     rfl
    clear hu hor
    have HBs : qH 223 #[.string s, .agg #[.int .i64 (att s j), .int .i64 (fin s (att s j))], .int .i64 1] (.tuple #[.agg #[.int .i64 (0), .int .i64 (0)], .bool false]) := fun ww => tBeside_none s _ _ _ ww hs (Or.inl rfl) (fun _ => by omega) (fun h => by omega)
    clear hF
    go_wp2_with fail
    refine (HBs.out _).mono ?_
    rintro r2 w2 ⟨rfl, h2⟩
    obtain ⟨hc2, hf2, hz2⟩ := qb h2
    (try simp at hz2)
    have T2 : Two w2 (w1.heap.size) (att s j) (fin s (att s j)) := qTw
    have ⟨T2_0, T2_1, T2_z, T2_l⟩ := T2
    clear hc2 hf2
    go_wp2
    go_roundg 0
    case measure => omega
    case rel =>
     refine Or.inr ⟨HZ, rfl, ?_⟩
     repeat exact qB
 ) : P := h
theorem tSeek_gen (cl op : Int) (I J : Nat) (hix : firstIdx ⟨#[40, 41, 91, 93, 123, 125]⟩ cl.toNat.toUInt8 = I) (hbx : bits BinOp.xor IntKind.i64 I 1 = J) (hJ : J < 6) (hel : (((⟨#[40, 41, 91, 93, 123, 125]⟩ : ByteArray)[J]'hJ).toNat : Int) = op) (hpar : (((I : Int) % 2) == 1) = false) (hne : (op == cl) = false) (hn10 : 32 ≤ cl) (hn11 : 32 ≤ op) (hn12 : ¬ op = cl) (s : ByteArray) (q d : Nat) (w : World) (hs : s.size ≤ 1000) (hq : q < s.size) (hd : d ≤ 1) (hd0 : 1 ≤ d ∨ bt s q = cl) :
  qC 287 #[.string s, .int .u8 cl, .int .i64 q, .int .i64 d] w (.tuple #[.int .i64 (mtI (mtU s cl op (s.size - q) d q)), .bool (mtB (mtU s cl op (s.size - q) d q))]) := by
 generalize hX : mtU s cl op (s.size - q) d q = X
 have HX : Hid (mtU s cl op (s.size - q) d q = X) := hX
 clear hX
 have hq' : q ≤ s.size := by omega
 have hm := lin_lt hq'
 have HL : qH 195 #[.string s, .int .i64 q] (.agg #[.int .i64 (att s (lin s q)), .int .i64 (fin s (att s (lin s q)))]) := by
  intro ww
  have := tLine_any s q q ww hs rfl hq'
  rw [fin_eq hq', beg_eq hq'] at this
  exact this
 go_enter func287, ntmps287
 go_wp2_with fail
 go_step3
 go_wp2_with fail
 refine (indexByte_any ⟨#[40, 41, 91, 93, 123, 125]⟩ cl _).mono ?_
 rintro e w9 ⟨rfl, h9⟩
 have h9 := h9.symm
 subst h9
 rw [hix]
 go_wp2_with fail
 refine (HL.out _).mono ?_
 rintro e w1 ⟨rfl, h1⟩
 obtain ⟨hc1, hf1, hz1⟩ := qb h1
 try simp at hz1
 go_wp2
 go_step3
 go_wp2
 go_loopg [2, 3, 14] (lns s - lin s q) (fun g pl dp mo wr => (∃ j pv b m : Nat, j < lns s ∧ g + j = lns s ∧ pl = .int .i64 pv ∧ dp = .int .i64 m ∧ b = max pv (att s j) ∧ b ≤ fin s (att s j) ∧ m ≤ b + 1 ∧ (1 ≤ m ∨ bt s b = cl) ∧ Hid (mtU s cl op (s.size - b) m b = X) ∧ mo = .bool true ∧ Two wr w1.heap.size (att s j) (fin s (att s j)) ∧ Below w.heap.size w wr) ∨ (Hid (X = -1) ∧ mo = .bool false ∧ Below w.heap.size w wr))
 case atStart =>
  refine Or.inl ⟨lin s q, q, q, d, hm, ?_, rfl, rfl, ?_, ?_, by omega, hd0, HX, rfl, Two.new _ _ _ _, ?_⟩
  ·omega
  ·rw [← beg_eq hq']; have := beg_le s q; omega
  ·rw [← fin_eq hq']; exact fin_ge s q
  ·repeat exact qB
 case round =>
  rcases hrel with ⟨j, pv, b, m, hj, hg, rfl, rfl, hb, hbf, hmb, hor, hu, rfl, T, hB⟩ | ⟨HZ, rfl, hB⟩
  ·have t0 := (T).c0
   have t1 := (T).c1
   have tz := (T).fz
   have tl := (T).lt
   by_cases hpv : (pv : Int) < (att s j : Nat)
   ·have eb : b = att s j := by omega
    subst eb
    clear hb
    go_wp2
    go_loopg [2, 3] (fin s (att s j) - att s j) (fun g2 pl dp wx => ∃ i n : Nat, att s j ≤ i ∧ i + g2 = fin s (att s j) ∧ pl = .int .i64 i ∧ dp = .int .i64 n ∧ n ≤ i + 1 ∧ (1 ≤ n ∨ bt s i = cl) ∧ Hid (mtU s cl op (s.size - i) n i = X) ∧ wx = wr)
    case atStart => exact ⟨att s j, m, Nat.le_refl _, by omega, rfl, rfl, hmb, hor, hu, rfl⟩
    case round =>
     exact qt5
   ·have eb : pv = b := by omega
    have hpv' : ((att s j : Nat) : Int) ≤ (pv : Int) := by omega
    subst eb
    clear hb hpv
    go_wp2
    go_loopg [2, 3] (fin s (att s j) - pv) (fun g2 pl dp wx => ∃ i n : Nat, pv ≤ i ∧ i + g2 = fin s (att s j) ∧ pl = .int .i64 i ∧ dp = .int .i64 n ∧ n ≤ i + 1 ∧ (1 ≤ n ∨ bt s i = cl) ∧ Hid (mtU s cl op (s.size - i) n i = X) ∧ wx = wr)
    case atStart => exact ⟨pv, m, Nat.le_refl _, by omega, rfl, rfl, hmb, hor, hu, rfl⟩
    case round =>
     exact qt5
  ·go_wp2
   (try rw [Exit.noGoto_ret])
   all_goals
    first
     | (exact qV (.tuple #[.int .i64 0, .bool false]) (by simp [results, results287, go_sem]) (by rw [HZ.out]; rfl))
theorem tSeek_40 (s : ByteArray) (q d : Nat) (w : World) (hs : s.size ≤ 1000) (hq : q < s.size) (hd : d ≤ 1) (hd0 : 1 ≤ d ∨ bt s q = 40) :
  qC 287 #[.string s, .int .u8 40, .int .i64 q, .int .i64 d] w (.tuple #[.int .i64 (mtI (mtU s 40 41 (s.size - q) d q)), .bool (mtB (mtU s 40 41 (s.size - q) d q))]) :=
 tSeek_gen 40 41 0 1 qd qd qd qd qd qd qd qd qd s q d w hs hq hd hd0
theorem qt7 {P : Prop} (h : P := by
  clear hu hor hmb
  obtain ⟨k, n, hk1, hk2, hk3, rfl, rfl, hn, hor, hu, rfl⟩ := hrel
  by_cases hlt : att s j < k
  ·obtain ⟨i, rfl⟩ : ∃ i, k = i + 1 := ⟨k - 1, by omega⟩
   have e1 : ((i + 1 : Nat) : Int) - 1 = (i : Int) := by omega
   rw [e1]
   have his : i < s.size := by omega
   have hle' : ((att s j : Nat) : Int) ≤ (i : Int) := by omega
   have hlt' : (i : Int) < ((fin s (att s j) : Nat) : Int) := by omega
   rw [Nat.add_sub_cancel] at hor
   by_cases hO : bt s i = cl
   ·have hcc : (((s[i]'his).toNat : Int) == cl) = true := by rw [← bt_in his]; simp [hO]
    have HS : Hid (mtD s cl op ((n + 1 : Nat) : Int) i = X) := by
     rw [Hid, ← hu.out]
     have e : dep s cl op n i = ((n + 1 : Nat) : Int) := by unfold dep; rw [if_pos hO, if_neg qo]; omega
     simp only [mtD]
     rw [e, if_neg qo]
    clear hu hor hO e1
    go_wp2
    go_roundg (i - att s j)
    case measure => omega
    case rel => exact ⟨i, n + 1, by omega, by omega, rfl, by first | rfl | (congr 1; omega), by go_num, by omega, Or.inl qo, HS, rfl⟩
   ·have hcc : (((s[i]'his).toNat : Int) == cl) = false := by rw [← bt_in his]; simp [hO]
    have hn1 : 1 ≤ n := by
     rcases hor with h | h
     ·exact h
     ·exact absurd h.2 hO
    by_cases hC : bt s i = op
    ·have hcd : (((s[i]'his).toNat : Int) == op) = true := by rw [← bt_in his]; simp [hC]
     have e : dep s cl op n i = (n : Int) - 1 := by unfold dep; rw [if_neg hO, if_pos hC]; omega
     by_cases hn2 : n = 1
     ·have HS : Hid (X = (i : Int)) := by
       rw [Hid, ← hu.out]
       simp only [mtD]
       rw [e, if_pos qo]
      subst hn2
      clear hu hor hO hC e e1
      go_wp2
      (try rw [Exit.noGoto_ret])
      all_goals
       first
        | (exact qV (.tuple #[.int .i64 i, .bool true]) (by simp [results, results287, go_sem]) (by rw [HS.out]; unfold mtI mtB; rw [if_neg qo, decide_eq_true qo]))
     ·have HS : Hid (mtD s cl op ((n - 1 : Nat) : Int) i = X) := by
       rw [Hid, ← hu.out]
       simp only [mtD]
       rw [e, if_neg qo, show ((n - 1 : Nat) : Int) = (n : Int) - 1 by omega]
      have hm0 : (((n : Int) - 1) == 0) = false := by simp; omega
      clear hu hor hO hC e e1
      go_wp2
      go_roundg (i - att s j)
      case measure => omega
      case rel => exact ⟨i, n - 1, by omega, by omega, rfl, by first | rfl | (congr 1; omega), by first | rfl | (congr 1; omega), by omega, Or.inl qo, HS, rfl⟩
    ·have hcd : (((s[i]'his).toNat : Int) == op) = false := by rw [← bt_in his]; simp [hC]
     have HS : Hid (mtD s cl op (n : Int) i = X) := by
      rw [Hid, ← hu.out]
      have e : dep s cl op n i = (n : Int) := by unfold dep; rw [if_neg hO, if_neg hC]; omega
      simp only [mtD]
      rw [e, if_neg qo]
     clear hu hor hO hC e1
     go_wp2
     go_roundg (i - att s j)
     case measure => omega
     case rel => exact ⟨i, n, by omega, by omega, rfl, by first | rfl | (congr 1; omega), rfl, by omega, Or.inl hn1, HS, rfl⟩
  ·have ek : k = att s j := by omega
   subst ek
   have hge : ¬ ((att s j : Nat) : Int) ≤ ((att s j : Nat) : Int) - 1 := by omega
   by_cases h0 : 0 < j
   ·have HQ : Hid (fin s (att s (j - 1)) + 1 = att s j) := by
     obtain ⟨i, rfl⟩ : ∃ i, j = i + 1 := ⟨j - 1, by omega⟩
     rfl
    have HBs : qH 223 #[.string s, .agg #[.int .i64 (att s j), .int .i64 (fin s (att s j))], .int .i64 (-1)] (.tuple #[.agg #[.int .i64 (att s (j - 1)), .int .i64 (fin s (att s (j - 1)))], .bool true]) := fun ww => tBeside_up s _ _ _ j ww hs rfl hj rfl h0
    have Hor : Hid (1 ≤ n ∨ (1 ≤ att s j ∧ bt s (att s j - 1) = cl)) := hor
    clear hor
    go_wp2_with fail
    refine (HBs.out _).mono ?_
    rintro r3 w3 ⟨rfl, h3⟩
    obtain ⟨hc3, hf3, hz3⟩ := qb h3
    (try simp at hz3)
    have T3 : Two w3 (w1.heap.size) (att s j) (fin s (att s j)) := qTw
    have ⟨T3_0, T3_1, T3_z, T3_l⟩ := T3
    clear hc3 hf3
    go_wp2
    have hq9 := HQ.out
    go_roundg j
    case measure => omega
    case rel =>
     refine Or.inl ⟨j - 1, att s j, n, by omega, by omega, rfl, rfl, ?_, by omega, by omega, hn, Hor.out, hu, rfl, Two.set1 (Two.set0 T3 _) _, ?_⟩
     ·have := fin_ge s (att s (j - 1)); omega
     ·repeat exact qB
   ·have e0 : j = 0 := by omega
    have ea : att s j = 0 := by rw [e0]; rfl
    have HZ : Hid (X = -1) := by rw [Hid, ← hu.out, ea]; rfl
    have HBs : qH 223 #[.string s, .agg #[.int .i64 (att s j), .int .i64 (fin s (att s j))], .int .i64 (-1)] (.tuple #[.agg #[.int .i64 (0), .int .i64 (0)], .bool false]) := fun ww => tBeside_none s _ _ _ ww hs (Or.inr rfl) (fun h => by omega) (fun _ => by omega)
    clear ea e0 hor hu
    go_wp2_with fail
    refine (HBs.out _).mono ?_
    rintro r3 w3 ⟨rfl, h3⟩
    obtain ⟨hc3, hf3, hz3⟩ := qb h3
    (try simp at hz3)
    have T3 : Two w3 (w1.heap.size) (att s j) (fin s (att s j)) := qTw
    have ⟨T3_0, T3_1, T3_z, T3_l⟩ := T3
    clear hc3 hf3
    go_wp2
    go_roundg 0
    case measure => omega
    case rel =>
     refine Or.inr ⟨HZ, rfl, ?_⟩
     repeat exact qB
 ) : P := h
theorem tSeekE_gen (cl op : Int) (I J : Nat) (hix : firstIdx ⟨#[40, 41, 91, 93, 123, 125]⟩ cl.toNat.toUInt8 = I) (hbx : bits BinOp.xor IntKind.i64 I 1 = J) (hJ : J < 6) (hel : (((⟨#[40, 41, 91, 93, 123, 125]⟩ : ByteArray)[J]'hJ).toNat : Int) = op) (hpar : (((I : Int) % 2) == 1) = true) (hne : (op == cl) = false) (hn10 : 32 ≤ cl) (hn11 : 32 ≤ op) (hn12 : ¬ op = cl) (s : ByteArray) (q d : Nat) (w : World) (hs : s.size ≤ 1000) (hq : q ≤ s.size) (hd : d ≤ 1) (hd0 : 1 ≤ d ∨ bt s q = cl) :
  qC 287 #[.string s, .int .u8 cl, .int .i64 q, .int .i64 d] w (.tuple #[.int .i64 (mtI (mtD s cl op d (q + 1))), .bool (mtB (mtD s cl op d (q + 1)))]) := by
 generalize hX : mtD s cl op d (q + 1) = X
 have HX : Hid (mtD s cl op d (q + 1) = X) := hX
 clear hX
 have hq' : q ≤ s.size := by omega
 have hm := lin_lt hq'
 have HL : qH 195 #[.string s, .int .i64 q] (.agg #[.int .i64 (att s (lin s q)), .int .i64 (fin s (att s (lin s q)))]) := by
  intro ww
  have := tLine_any s q q ww hs rfl hq'
  rw [fin_eq hq', beg_eq hq'] at this
  exact this
 go_enter func287, ntmps287
 go_wp2_with fail
 go_step3
 go_wp2_with fail
 refine (indexByte_any ⟨#[40, 41, 91, 93, 123, 125]⟩ cl _).mono ?_
 rintro e w9 ⟨rfl, h9⟩
 have h9 := h9.symm
 subst h9
 rw [hix]
 go_wp2_with fail
 refine (HL.out _).mono ?_
 rintro e w1 ⟨rfl, h1⟩
 obtain ⟨hc1, hf1, hz1⟩ := qb h1
 try simp at hz1
 go_wp2
 go_step3
 go_wp2
 go_loopg [2, 3, 14] (lin s q + 1) (fun g pl dp mo wr => (∃ j K m : Nat, j < lns s ∧ g = j + 1 ∧ pl = .int .i64 ((K : Int) - 1) ∧ dp = .int .i64 m ∧ att s j ≤ K ∧ K ≤ fin s (att s j) + 1 ∧ K ≤ s.size + 1 ∧ m + K ≤ 1002 ∧ (1 ≤ m ∨ (1 ≤ K ∧ bt s (K - 1) = cl)) ∧ Hid (mtD s cl op m K = X) ∧ mo = .bool true ∧ Two wr w1.heap.size (att s j) (fin s (att s j)) ∧ Below w.heap.size w wr) ∨ (Hid (X = -1) ∧ mo = .bool false ∧ Below w.heap.size w wr))
 case atStart =>
  have ha : att s (lin s q) ≤ q := by rw [← beg_eq hq']; exact beg_le s q
  have hf : q ≤ fin s (att s (lin s q)) := by rw [← fin_eq hq']; exact fin_ge s q
  refine Or.inl ⟨lin s q, q + 1, d, hm, rfl, by first | rfl | (congr 1; omega), rfl, by omega, by omega, by omega, by omega, ?_, HX, rfl, Two.new _ _ _ _, ?_⟩
  ·rcases hd0 with h | h
   ·exact Or.inl h
   ·exact Or.inr ⟨by omega, h⟩
  ·repeat exact qB
 case round =>
  rcases hrel with ⟨j, K, m, hj, hg, rfl, rfl, hka, hkf, hks, hmb, hor, hu, rfl, T, hB⟩ | ⟨HZ, rfl, hB⟩
  ·have t0 := (T).c0
   have t1 := (T).c1
   have tz := (T).fz
   have tl := (T).lt
   have hfl := fin_le (att_in hj).1
   have hfg := fin_ge s (att s j)
   by_cases hK : fin s (att s j) < K
   ·have eK : K = fin s (att s j) + 1 := by omega
    have h10 : bt s (fin s (att s j)) = 10 ∨ bt s (fin s (att s j)) = -1 := by
     by_cases hfs : fin s (att s j) < s.size
     ·left
      have h := fin_nl (s := s) (p := att s j) hfs
      unfold Nib.nl at h
      simpa using h
     ·right
      unfold bt
      rw [dif_neg qo]
    have hm1 : 1 ≤ m := by
     rcases hor with h | h
     ·exact h
     ·have h2 := h.2
      rw [eK, Nat.add_sub_cancel] at h2
      omega
    have hu2 : Hid (mtD s cl op m (fin s (att s j)) = X) := by
     rw [Hid, ← hu.out, eK]
     have e : dep s cl op m (fin s (att s j)) = (m : Int) := by unfold dep; rw [if_neg qo, if_neg qo]; omega
     simp only [mtD]
     rw [e, if_neg qo]
    have hu := hu2
    have hor : 1 ≤ m ∨ (1 ≤ fin s (att s j) ∧ bt s (fin s (att s j) - 1) = cl) := Or.inl hm1
    have hKI : ((fin s (att s j) : Nat) : Int) - 1 < (K : Int) - 1 := by omega
    clear hu2 h10
    have HEK : Hid (K = fin s (att s j) + 1) := eK
    clear eK
    have hmf : m + fin s (att s j) ≤ 1002 := by omega
    go_wp2
    go_loopg [2, 3] (fin s (att s j) - att s j) (fun g2 pl dp wx => ∃ k n : Nat, att s j ≤ k ∧ k ≤ fin s (att s j) ∧ g2 = k - att s j ∧ pl = .int .i64 ((k : Int) - 1) ∧ dp = .int .i64 n ∧ n + k ≤ 1002 ∧ (1 ≤ n ∨ (1 ≤ k ∧ bt s (k - 1) = cl)) ∧ Hid (mtD s cl op n k = X) ∧ wx = wr)
    case atStart => exact ⟨fin s (att s j), m, by omega, by omega, rfl, by first | rfl | (congr 1; omega), rfl, by omega, hor, hu, rfl⟩
    case round =>
     exact qt7
   ·have hKI : ¬ ((fin s (att s j) : Nat) : Int) - 1 < (K : Int) - 1 := by omega
    have hKI2 : (K : Int) - 1 ≤ ((fin s (att s j) : Nat) : Int) - 1 := by omega
    clear hKI
    go_wp2
    go_loopg [2, 3] (K - att s j) (fun g2 pl dp wx => ∃ k n : Nat, att s j ≤ k ∧ k ≤ fin s (att s j) ∧ g2 = k - att s j ∧ pl = .int .i64 ((k : Int) - 1) ∧ dp = .int .i64 n ∧ n + k ≤ 1002 ∧ (1 ≤ n ∨ (1 ≤ k ∧ bt s (k - 1) = cl)) ∧ Hid (mtD s cl op n k = X) ∧ wx = wr)
    case atStart => exact ⟨K, m, by omega, by omega, rfl, by first | rfl | (congr 1; omega), rfl, by omega, hor, hu, rfl⟩
    case round =>
     exact qt7
  ·go_wp2
   (try rw [Exit.noGoto_ret])
   all_goals
    first
     | (exact qV (.tuple #[.int .i64 0, .bool false]) (by simp [results, results287, go_sem]) (by rw [HZ.out]; rfl))
theorem mBecome (r d : Nat) (p : Pg) (x : ByteArray) (w : World) (h : RdAt w r d p) (hx : x.size ≤ 1000) :
  Calls Tryz.prog 175 #[.pointer (some ⟨d, 0, none⟩), .string x] w fun e w' => e = .returned (.bool true) ∧ RdAt w' r d { p with t := x } ∧ Upd [d] w w' := by
 have H := h
 have HS := h.set_t x
 have c0 := h.dk.c0
 have fz := h.dk.fz
 have lt := h.dk.lt
 have hy : ((1000 : Int) < x.size) = False := by simp; omega
 generalize ({ p with t := x } : Pg) = p2 at *
 clear h hx
 go_enter func175, ntmps175
 go_wp2
 go_ret
 exact ⟨rfl, HS, Upd.setCell (Upd.refl _ _) (Or.inl qi) _⟩
theorem mBecome_long (r d : Nat) (x : ByteArray) (w : World) (hx : 1000 < x.size) :
  Calls Tryz.prog 175 #[.pointer (some ⟨d, 0, none⟩), .string x] w fun e w' => e = .returned (.bool false) ∧ w' = w := by
 have hy : ((1000 : Int) < x.size) = True := by simp; omega
 clear hx
 go_enter func175, ntmps175
 go_wp2
 go_ret
 exact ⟨rfl, rfl⟩
theorem vDo_copy (s : ByteArray) (a b p r : Int) (l : Bool) (w : World)
  (HB : qH 221 #[.string s, .agg #[.int .i64 a, .int .i64 b, .bool l], .int .i64 p] (.int .i64 r)) :
  qC 174 #[.int .u8 121, .string s, .agg #[.int .i64 a, .int .i64 b, .bool l], .int .i64 p] w (.tuple #[.string s, .int .i64 r]) := by
 go_enter func174, ntmps174
 go_wp2_with fail
 refine (HB.out _).mono ?_
 rintro e w1 ⟨rfl, h1⟩
 obtain ⟨hc1, hf1, hz1⟩ := qb h1
 try simp at hz1
 go_wp2
 refine bodyPost_ret (v := .tuple #[.string s, .int .i64 r]) (by simp [results, results174, go_sem]) rfl ⟨rfl, ?_⟩
 exact qB
theorem vWithout_piece (s : ByteArray) (i j : Nat) (w : World) (hs : s.size ≤ 1000) (h : i ≤ j) (hj : j ≤ s.size) :
  qC 218 #[.string s, .agg #[.int .i64 i, .int .i64 j, .bool false]] w (.tuple #[.string (s.extract 0 i ++ s.extract j s.size), .int .i64 i]) := by
 have HW : qH 192 #[.string s, .agg #[.int .i64 (i), .int .i64 (j)], .string ⟨#[]⟩] (.string (s.extract 0 i ++ s.extract j s.size)) := by
  intro ww
  have := tWith_any s ⟨#[]⟩ i j i j ww hs qd rfl rfl h hj
  rw [show s.extract 0 i ++ (⟨#[]⟩ : ByteArray) = s.extract 0 i from ByteArray.append_empty] at this
  exact this
 generalize s.extract 0 i ++ s.extract j s.size = X at *
 go_enter func218, ntmps218
 go_wp2_with fail
 go_wp2_with fail
 go_region_held3 (fun ww => ww.cell? ⟨w.heap.size, 0, none⟩ = some (.int .i64 i) ∧ ww.cell? ⟨w.heap.size, 1, none⟩ = some (.int .i64 j)) ((refine ⟨?_, ?_⟩ <;> go_simp)) ((go_at_call 192; refine (HW.out _).mono ?_; rintro r1 w1 ⟨rfl, h1⟩; obtain ⟨hc1, hf1, hz1⟩ := qb h1; (try simp at hz1); (try have ⟨hl1_0, hk1_0⟩ := qL w.heap.size w1.heap.size)))
 go_wp2
 refine bodyPost_ret (v := .tuple #[.string X, .int .i64 i]) (by simp [results, results218, go_sem]) rfl ⟨rfl, ?_⟩
 exact qB
theorem mTaken_piece (s : ByteArray) (i j : Nat) (l : Bool) (w : World) (hs : s.size ≤ 1000) (h : i ≤ j) (hj : j ≤ s.size) :
  qC 173 #[.string s, .agg #[.int .i64 i, .int .i64 j, .bool l]] w (.agg #[.string (s.extract i j ++ if l then ⟨#[10]⟩ else ⟨#[]⟩), .bool l]) := by
 have HO : qH 87 #[.string s, .agg #[.int .i64 (i), .int .i64 (j)]] (.string (s.extract i j)) := fun ww => tOf_any s i j i j ww hs rfl rfl h hj
 have hz : (s.extract i j).size ≤ 1000 := by rw [ByteArray.size_extract]; omega
 generalize s.extract i j = X at *
 cases l
 ·rw [if_neg qi, show X ++ (⟨#[]⟩ : ByteArray) = X from ByteArray.append_empty]
  go_enter func173, ntmps173
  go_wp2_with fail
  refine (HO.out _).mono ?_
  rintro e w1 ⟨rfl, h1⟩
  obtain ⟨hc1, hf1, hz1⟩ := qb h1
  try simp at hz1
  have l1 : w.heap.size + 1 < w1.heap.size := by omega
  have z0 : ∀ o, w1.frozen? ⟨w.heap.size + 1, o, none⟩ = false := by intro o; rw [hf1 _ _ qi]; first | (go_simp; done) | simp
  have c1 : w1.cell? ⟨w.heap.size + 1, 0, none⟩ = some (.string ⟨#[]⟩) := by rw [hc1 _ _ qi]; first | (go_simp; done) | simp
  have c2 : w1.cell? ⟨w.heap.size + 1, 1, none⟩ = some (.bool false) := by rw [hc1 _ _ qi]; first | (go_simp; done) | simp
  have c3 : w1.cell? ⟨w.heap.size, 2, none⟩ = some (.bool false) := by rw [hc1 _ _ qs]; first | (go_simp; done) | simp
  clear hc1 hf1
  go_wp2
  refine bodyPost_ret (v := .agg #[.string X, .bool false]) (by simp [results, results173, go_sem, c1, c2, z0, l1]) rfl ⟨rfl, ?_⟩
  exact qB
 ·rw [if_pos rfl]
  have f1 : ¬ 9223372036854775807 < X.size + 1 := by omega
  go_enter func173, ntmps173
  go_wp2_with fail
  refine (HO.out _).mono ?_
  rintro e w1 ⟨rfl, h1⟩
  obtain ⟨hc1, hf1, hz1⟩ := qb h1
  try simp at hz1
  have l1 : w.heap.size + 1 < w1.heap.size := by omega
  have z0 : ∀ o, w1.frozen? ⟨w.heap.size + 1, o, none⟩ = false := by intro o; rw [hf1 _ _ qi]; first | (go_simp; done) | simp
  have c1 : w1.cell? ⟨w.heap.size + 1, 0, none⟩ = some (.string ⟨#[]⟩) := by rw [hc1 _ _ qi]; first | (go_simp; done) | simp
  have c2 : w1.cell? ⟨w.heap.size + 1, 1, none⟩ = some (.bool false) := by rw [hc1 _ _ qi]; first | (go_simp; done) | simp
  have c3 : w1.cell? ⟨w.heap.size, 2, none⟩ = some (.bool true) := by rw [hc1 _ _ qs]; first | (go_simp; done) | simp
  clear hc1 hf1
  go_wp2
  refine bodyPost_ret (v := .agg #[.string (X ++ ⟨#[10]⟩), .bool true]) (by simp [results, results173, go_sem, c1, c2, z0, l1]) rfl ⟨rfl, ?_⟩
  exact qB
theorem hOf (t : ByteArray) (w : World) :
  qC 40 #[.string t] w (.agg #[.string t, .slice none 0 0, .slice none 0 0]) := by
 go_enter func40, ntmps40
 go_wp2
 exact qV (.agg #[.string t, .slice none 0 0, .slice none 0 0]) (by simp [results, results40, go_sem]) rfl
def newPg (t : ByteArray) (m : Nat) : Pg := ⟨t, 0, 0, 0, .map (some m), t, .slice none 0 0, .slice none 0 0, 0, 0, 0, 0, 0, 0, 0⟩
theorem bNew (t : ByteArray) (w : World) :
  Calls Tryz.prog 33 #[.string t] w fun e w' => ∃ b r d m : Nat, e = .returned (.pointer (some ⟨b, 0, none⟩)) ∧ NbAt w' b r d (newPg t m) (.slice none 0 0) 0 ⟨#[]⟩ ∧ w'.heap[m]? = some (.map #[] 0) ∧
   w.heap.size ≤ m ∧ w.heap.size ≤ b ∧ w.heap.size ≤ r ∧ w.heap.size ≤ d ∧ m ≠ b ∧ m ≠ r ∧ m ≠ d ∧ Below w.heap.size w w' := by
 have HO : qH 40 #[.string t] (.agg #[.string t, .slice none 0 0, .slice none 0 0]) := fun ww => hOf t ww
 have hmm := @run_makeMap Tryz.prog
 go_enter func33, ntmps33
 go_wp2_with fail
 refine Calls.mono (HO.out _) ?_
 rintro e w1 ⟨rfl, h1⟩
 have hz1 := h1.size
 simp at hz1
 have hmp : w1.heap[w.heap.size]? = some (.map #[] 0) := by
  rw [h1.block w.heap.size qi]
  exact heap_alloc_new w _
 go_wp2_with fail
 go_ret
 refine ⟨w1.heap.size + 1 + 1, w1.heap.size + 1, w1.heap.size, w.heap.size, rfl, ⟨?_, ⟨?_, ?_, by omega⟩, ⟨_, World.ownsRow_nil _ _ _ _⟩, by omega, by omega, by simp [Value.ownBlock], by simp [Value.ownBlock], by simp [Value.ownBlock]⟩, ?_, by omega, by omega, by omega, by omega, by omega, by omega, by omega, ?_⟩
 ·constructor <;> first | (intro o; simp; done) | (simp [go_sem]; done) | (simp [go_sem]; rfl) | (simp; omega) | rfl
 ·constructor <;> first | (intro o; simp [newPg]; done) | (simp [go_sem, newPg]; done) | (simp [go_sem, newPg]; rfl) | (simp; omega) | rfl
 ·constructor <;> first | (intro o; simp [newPg]; done) | (simp [go_sem, newPg]; done) | (simp [go_sem, newPg]; rfl) | (simp; omega) | rfl
 ·rw [Below.heap_alloc _ _ _ qs, Below.heap_alloc _ _ _ qs, Below.heap_alloc _ _ _ qo]
  exact hmp
 ·repeat exact qB
