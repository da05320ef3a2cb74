/- A part. -/
import Derived.Test.YtlendfhehhacpaaGreatT12
import Derived.Test.YtlendfhehhacpaaGreatT15
import Derived.Test.YtlendfhehhacpaaGreatT17
import Derived.Laws.BytesArg
set_option linter.unusedVariables false
set_option linter.unusedSimpArgs false
set_option maxRecDepth 100000
set_option maxHeartbeats 8000000
namespace Go.Proofs.YtlendfhehhacpaaGreat
open Go.RowKit Nib Tryz
def mtI (x : Int) : Int := if x < 0 then 0 else x
def mtB (x : Int) : Bool := decide (0 ≤ x)
theorem qt4 {P : Prop} (h : P := by
  clear hu hor hmb
  obtain ⟨i, n, hi1, hi2, rfl, rfl, hn, hor, hu, rfl⟩ := hrel
  have hfl := fin_le (att_in hj).1
  have hle' : ((att s j : Nat) : Int) ≤ (i : Int) := by omega
  by_cases hlt : i < fin s (att s j)
  ·have his : i < s.size := by omega
   have ef : s.size - i = (s.size - (i + 1)) + 1 := by omega
   by_cases h40 : bt s i = cl
   ·have hcc : (((s[i]'his).toNat : Int) == cl) = true := by rw [← bt_in his]; simp [h40]
    have HS : Hid (mtU s cl op (s.size - (i + 1)) ((n + 1 : Nat) : Int) (i + 1) = X) := by
     rw [Hid, ← hu.out, ef]
     have e : dep s cl op n i = ((n + 1 : Nat) : Int) := by unfold dep; rw [if_pos h40, if_neg qo]; omega
     simp only [mtU]
     rw [if_pos his, e, if_neg qo]
    clear hu hor h40 ef
    go_wp2
    go_roundg (fin s (att s j) - (i + 1))
    case measure => omega
    case rel => exact ⟨i + 1, n + 1, by omega, by omega, by go_num, by go_num, by omega, Or.inl qo, HS, rfl⟩
   ·have hcc : (((s[i]'his).toNat : Int) == cl) = false := by rw [← bt_in his]; simp [h40]
    have hn1 : 1 ≤ n := by
     rcases hor with h | h
     ·exact h
     ·exact absurd h h40
    by_cases h41 : bt s i = op
    ·have hcd : (((s[i]'his).toNat : Int) == op) = true := by rw [← bt_in his]; simp [h41]
     have e : dep s cl op n i = (n : Int) - 1 := by unfold dep; rw [if_neg h40, if_pos h41]; omega
     by_cases hn2 : n = 1
     ·have HS : Hid (X = (i : Int)) := by
       rw [Hid, ← hu.out, ef]
       simp only [mtU]
       rw [if_pos his, e, if_pos qo]
      subst hn2
      clear hu hor h40 h41 e ef
      go_wp2
      (try rw [Exit.noGoto_ret])
      all_goals
       first
        | (exact qV (.tuple #[.int .i64 i, .bool true]) (by simp [results, results287, go_sem]) (by rw [HS.out]; unfold mtI mtB; rw [if_neg qo, decide_eq_true qo]))
     ·have HS : Hid (mtU s cl op (s.size - (i + 1)) ((n - 1 : Nat) : Int) (i + 1) = X) := by
       rw [Hid, ← hu.out, ef]
       simp only [mtU]
       rw [if_pos his, e, if_neg qo, show ((n - 1 : Nat) : Int) = (n : Int) - 1 by omega]
      have hm0 : (((n : Int) - 1) == 0) = false := by simp; omega
      clear hu hor h40 h41 e ef
      go_wp2
      go_roundg (fin s (att s j) - (i + 1))
      case measure => omega
      case rel => exact ⟨i + 1, n - 1, by omega, by omega, by go_num, by first | rfl | (congr 1; omega), by omega, Or.inl qo, HS, rfl⟩
    ·have hcd : (((s[i]'his).toNat : Int) == op) = false := by rw [← bt_in his]; simp [h41]
     have HS : Hid (mtU s cl op (s.size - (i + 1)) (n : Int) (i + 1) = X) := by
      rw [Hid, ← hu.out, ef]
      have e : dep s cl op n i = (n : Int) := by unfold dep; rw [if_neg h40, if_neg h41]; omega
      simp only [mtU]
      rw [if_pos his, e, if_neg qo]
     clear hu hor h40 h41 ef
     go_wp2
     go_roundg (fin s (att s j) - (i + 1))
     case measure => omega
     case rel => exact ⟨i + 1, n, by omega, by omega, by go_num, rfl, by omega, Or.inl hn1, HS, rfl⟩
  ·have HEI : Hid (i = fin s (att s j)) := (by omega : i = fin s (att s j))
   have hgeI : ¬ (i : Int) < ((fin s (att s j) : Nat) : Int) := by omega
   by_cases hne : j + 1 < lns s
   ·have hef := fin_lt_of hne
    have h10 : bt s i = 10 := by
     have h := fin_nl hef
     rw [← HEI.out] at h
     unfold Nib.nl at h
     simpa using h
    have hn1 : 1 ≤ n := by
     rcases hor with h | h
     ·exact h
     ·omega
    have HS : Hid (mtU s cl op (s.size - att s (j + 1)) (n : Int) (att s (j + 1)) = X) := by
     have h9 : att s (j + 1) = i + 1 := by rw [HEI.out]; rfl
     have his : i < s.size := by have := HEI.out; omega
     rw [Hid, ← hu.out, h9, show s.size - i = (s.size - (i + 1)) + 1 by omega]
     have e : dep s cl op n i = (n : Int) := by unfold dep; rw [if_neg qo, if_neg qo]; omega
     simp only [mtU]
     rw [if_pos his, e, if_neg qo]
    clear hu hor h10
    have HBs : qH 223 #[.string s, .agg #[.int .i64 (att s j), .int .i64 (fin s (att s j))], .int .i64 1] (.tuple #[.agg #[.int .i64 (att s (j + 1)), .int .i64 (fin s (att s (j + 1)))], .bool true]) := fun ww => tBeside_down s _ _ _ j ww hs rfl rfl rfl hne
    go_wp2_with fail
    refine (HBs.out _).mono ?_
    rintro r2 w2 ⟨rfl, h2⟩
    obtain ⟨hc2, hf2, hz2⟩ := qb h2
    (try simp at hz2)
    have T2 : Two w2 (w1.heap.size) (att s j) (fin s (att s j)) := qTw
    have ⟨T2_0, T2_1, T2_z, T2_l⟩ := T2
    clear hc2 hf2
    go_wp2
    go_roundg (lns s - (j + 1))
    case measure => omega
    case rel =>
     have h9 : att s (j + 1) = i + 1 := by rw [HEI.out]; rfl
     refine Or.inl ⟨j + 1, i, att s (j + 1), n, hne, by omega, rfl, rfl, by omega, fin_ge _ _, by omega, Or.inl hn1, HS, rfl, Two.set1 (Two.set0 T2 _) _, ?_⟩
     repeat exact qB
   ·have hF := fin_last (s := s) (m := j) qo
    have HZ : Hid (X = -1) := by
     rw [Hid, ← hu.out, show s.size - i = 0 by have := HEI.out; omega]
     rfl
    clear hu hor
    have HBs : qH 223 #[.string s, .agg #[.int .i64 (att s j), .int .i64 (fin s (att s j))], .int .i64 1] (.tuple #[.agg #[.int .i64 (0), .int .i64 (0)], .bool false]) := fun ww => tBeside_none s _ _ _ ww hs (Or.inl rfl) (fun _ => by omega) (fun h => by omega)
    clear hF
    go_wp2_with fail
    refine (HBs.out _).mono ?_
    rintro r2 w2 ⟨rfl, h2⟩
    obtain ⟨hc2, hf2, hz2⟩ := qb h2
    (try simp at hz2)
    have T2 : Two w2 (w1.heap.size) (att s j) (fin s (att s j)) := qTw
    have ⟨T2_0, T2_1, T2_z, T2_l⟩ := T2
    clear hc2 hf2
    go_wp2
    go_roundg 0
    case measure => omega
    case rel =>
     refine Or.inr ⟨HZ, rfl, ?_⟩
     repeat exact qB
 ) : P := h
theorem tSeek_gen (cl op : Int) (I J : Nat) (hix : firstIdx ⟨#[40, 41, 91, 93, 123, 125]⟩ cl.toNat.toUInt8 = I) (hbx : bits BinOp.xor IntKind.i64 I 1 = J) (hJ : J < 6) (hel : (((⟨#[40, 41, 91, 93, 123, 125]⟩ : ByteArray)[J]'hJ).toNat : Int) = op) (hpar : (((I : Int) % 2) == 1) = false) (hne : (op == cl) = false) (hn10 : 32 ≤ cl) (hn11 : 32 ≤ op) (hn12 : ¬ op = cl) (s : ByteArray) (q d : Nat) (w : World) (hs : s.size ≤ 1000) (hq : q < s.size) (hd : d ≤ 1) (hd0 : 1 ≤ d ∨ bt s q = cl) :
  qC 287 #[.string s, .int .u8 cl, .int .i64 q, .int .i64 d] w (.tuple #[.int .i64 (mtI (mtU s cl op (s.size - q) d q)), .bool (mtB (mtU s cl op (s.size - q) d q))]) := by
 generalize hX : mtU s cl op (s.size - q) d q = X
 have HX : Hid (mtU s cl op (s.size - q) d q = X) := hX
 clear hX
 have hq' : q ≤ s.size := by omega
 have hm := lin_lt hq'
 have HL : qH 195 #[.string s, .int .i64 q] (.agg #[.int .i64 (att s (lin s q)), .int .i64 (fin s (att s (lin s q)))]) := by
  intro ww
  have := tLine_any s q q ww hs rfl hq'
  rw [fin_eq hq', beg_eq hq'] at this
  exact this
 go_enter func287, ntmps287
 go_wp2_with fail
 go_step3
 go_wp2_with fail
 refine (indexByte_any ⟨#[40, 41, 91, 93, 123, 125]⟩ cl _).mono ?_
 rintro e w9 ⟨rfl, h9⟩
 have h9 := h9.symm
 subst h9
 rw [hix]
 go_wp2_with fail
 refine (HL.out _).mono ?_
 rintro e w1 ⟨rfl, h1⟩
 obtain ⟨hc1, hf1, hz1⟩ := qb h1
 try simp at hz1
 go_wp2
 go_step3
 go_wp2
 go_loopg [2, 3, 14] (lns s - lin s q) (fun g pl dp mo wr => (∃ j pv b m : Nat, j < lns s ∧ g + j = lns s ∧ pl = .int .i64 pv ∧ dp = .int .i64 m ∧ b = max pv (att s j) ∧ b ≤ fin s (att s j) ∧ m ≤ b + 1 ∧ (1 ≤ m ∨ bt s b = cl) ∧ Hid (mtU s cl op (s.size - b) m b = X) ∧ mo = .bool true ∧ Two wr w1.heap.size (att s j) (fin s (att s j)) ∧ Below w.heap.size w wr) ∨ (Hid (X = -1) ∧ mo = .bool false ∧ Below w.heap.size w wr))
 case atStart =>
  refine Or.inl ⟨lin s q, q, q, d, hm, ?_, rfl, rfl, ?_, ?_, by omega, hd0, HX, rfl, Two.new _ _ _ _, ?_⟩
  ·omega
  ·rw [← beg_eq hq']; have := beg_le s q; omega
  ·rw [← fin_eq hq']; exact fin_ge s q
  ·repeat exact qB
 case round =>
  rcases hrel with ⟨j, pv, b, m, hj, hg, rfl, rfl, hb, hbf, hmb, hor, hu, rfl, T, hB⟩ | ⟨HZ, rfl, hB⟩
  ·have t0 := (T).c0
   have t1 := (T).c1
   have tz := (T).fz
   have tl := (T).lt
   by_cases hpv : (pv : Int) < (att s j : Nat)
   ·have eb : b = att s j := by omega
    subst eb
    clear hb
    go_wp2
    go_loopg [2, 3] (fin s (att s j) - att s j) (fun g2 pl dp wx => ∃ i n : Nat, att s j ≤ i ∧ i + g2 = fin s (att s j) ∧ pl = .int .i64 i ∧ dp = .int .i64 n ∧ n ≤ i + 1 ∧ (1 ≤ n ∨ bt s i = cl) ∧ Hid (mtU s cl op (s.size - i) n i = X) ∧ wx = wr)
    case atStart => exact ⟨att s j, m, Nat.le_refl _, by omega, rfl, rfl, hmb, hor, hu, rfl⟩
    case round =>
     exact qt4
   ·have eb : pv = b := by omega
    have hpv' : ((att s j : Nat) : Int) ≤ (pv : Int) := by omega
    subst eb
    clear hb hpv
    go_wp2
    go_loopg [2, 3] (fin s (att s j) - pv) (fun g2 pl dp wx => ∃ i n : Nat, pv ≤ i ∧ i + g2 = fin s (att s j) ∧ pl = .int .i64 i ∧ dp = .int .i64 n ∧ n ≤ i + 1 ∧ (1 ≤ n ∨ bt s i = cl) ∧ Hid (mtU s cl op (s.size - i) n i = X) ∧ wx = wr)
    case atStart => exact ⟨pv, m, Nat.le_refl _, by omega, rfl, rfl, hmb, hor, hu, rfl⟩
    case round =>
     exact qt4
  ·go_wp2
   (try rw [Exit.noGoto_ret])
   all_goals
    first
     | (exact qV (.tuple #[.int .i64 0, .bool false]) (by simp [results, results287, go_sem]) (by rw [HZ.out]; rfl))
theorem tSeek_91 (s : ByteArray) (q d : Nat) (w : World) (hs : s.size ≤ 1000) (hq : q < s.size) (hd : d ≤ 1) (hd0 : 1 ≤ d ∨ bt s q = 91) :
  qC 287 #[.string s, .int .u8 91, .int .i64 q, .int .i64 d] w (.tuple #[.int .i64 (mtI (mtU s 91 93 (s.size - q) d q)), .bool (mtB (mtU s 91 93 (s.size - q) d q))]) :=
 tSeek_gen 91 93 2 3 qd qd qd qd qd qd qd qd qd s q d w hs hq hd hd0
theorem tSeek_123 (s : ByteArray) (q d : Nat) (w : World) (hs : s.size ≤ 1000) (hq : q < s.size) (hd : d ≤ 1) (hd0 : 1 ≤ d ∨ bt s q = 123) :
  qC 287 #[.string s, .int .u8 123, .int .i64 q, .int .i64 d] w (.tuple #[.int .i64 (mtI (mtU s 123 125 (s.size - q) d q)), .bool (mtB (mtU s 123 125 (s.size - q) d q))]) :=
 tSeek_gen 123 125 4 5 qd qd qd qd qd qd qd qd qd s q d w hs hq hd hd0
theorem tSeek_40 (s : ByteArray) (q d : Nat) (w : World) (hs : s.size ≤ 1000) (hq : q < s.size) (hd : d ≤ 1) (hd0 : 1 ≤ d ∨ bt s q = 40) :
  qC 287 #[.string s, .int .u8 40, .int .i64 q, .int .i64 d] w (.tuple #[.int .i64 (mtI (mtU s 40 41 (s.size - q) d q)), .bool (mtB (mtU s 40 41 (s.size - q) d q))]) :=
 tSeek_gen 40 41 0 1 qd qd qd qd qd qd qd qd qd s q d w hs hq hd hd0
theorem qt6 {P : Prop} (h : P := by
  clear hu hor hmb
  obtain ⟨k, n, hk1, hk2, hk3, rfl, rfl, hn, hor, hu, rfl⟩ := hrel
  by_cases hlt : att s j < k
  ·obtain ⟨i, rfl⟩ : ∃ i, k = i + 1 := ⟨k - 1, by omega⟩
   have e1 : ((i + 1 : Nat) : Int) - 1 = (i : Int) := by omega
   rw [e1]
   have his : i < s.size := by omega
   have hle' : ((att s j : Nat) : Int) ≤ (i : Int) := by omega
   have hlt' : (i : Int) < ((fin s (att s j) : Nat) : Int) := by omega
   rw [Nat.add_sub_cancel] at hor
   by_cases hO : bt s i = cl
   ·have hcc : (((s[i]'his).toNat : Int) == cl) = true := by rw [← bt_in his]; simp [hO]
    have HS : Hid (mtD s cl op ((n + 1 : Nat) : Int) i = X) := by
     rw [Hid, ← hu.out]
     have e : dep s cl op n i = ((n + 1 : Nat) : Int) := by unfold dep; rw [if_pos hO, if_neg qo]; omega
     simp only [mtD]
     rw [e, if_neg qo]
    clear hu hor hO e1
    go_wp2
    go_roundg (i - att s j)
    case measure => omega
    case rel => exact ⟨i, n + 1, by omega, by omega, rfl, by first | rfl | (congr 1; omega), by go_num, by omega, Or.inl qo, HS, rfl⟩
   ·have hcc : (((s[i]'his).toNat : Int) == cl) = false := by rw [← bt_in his]; simp [hO]
    have hn1 : 1 ≤ n := by
     rcases hor with h | h
     ·exact h
     ·exact absurd h.2 hO
    by_cases hC : bt s i = op
    ·have hcd : (((s[i]'his).toNat : Int) == op) = true := by rw [← bt_in his]; simp [hC]
     have e : dep s cl op n i = (n : Int) - 1 := by unfold dep; rw [if_neg hO, if_pos hC]; omega
     by_cases hn2 : n = 1
     ·have HS : Hid (X = (i : Int)) := by
       rw [Hid, ← hu.out]
       simp only [mtD]
       rw [e, if_pos qo]
      subst hn2
      clear hu hor hO hC e e1
      go_wp2
      (try rw [Exit.noGoto_ret])
      all_goals
       first
        | (exact qV (.tuple #[.int .i64 i, .bool true]) (by simp [results, results287, go_sem]) (by rw [HS.out]; unfold mtI mtB; rw [if_neg qo, decide_eq_true qo]))
     ·have HS : Hid (mtD s cl op ((n - 1 : Nat) : Int) i = X) := by
       rw [Hid, ← hu.out]
       simp only [mtD]
       rw [e, if_neg qo, show ((n - 1 : Nat) : Int) = (n : Int) - 1 by omega]
      have hm0 : (((n : Int) - 1) == 0) = false := by simp; omega
      clear hu hor hO hC e e1
      go_wp2
      go_roundg (i - att s j)
      case measure => omega
      case rel => exact ⟨i, n - 1, by omega, by omega, rfl, by first | rfl | (congr 1; omega), by first | rfl | (congr 1; omega), by omega, Or.inl qo, HS, rfl⟩
    ·have hcd : (((s[i]'his).toNat : Int) == op) = false := by rw [← bt_in his]; simp [hC]
     have HS : Hid (mtD s cl op (n : Int) i = X) := by
      rw [Hid, ← hu.out]
      have e : dep s cl op n i = (n : Int) := by unfold dep; rw [if_neg hO, if_neg hC]; omega
      simp only [mtD]
      rw [e, if_neg qo]
     clear hu hor hO hC e1
     go_wp2
     go_roundg (i - att s j)
     case measure => omega
     case rel => exact ⟨i, n, by omega, by omega, rfl, by first | rfl | (congr 1; omega), rfl, by omega, Or.inl hn1, HS, rfl⟩
  ·have ek : k = att s j := by omega
   subst ek
   have hge : ¬ ((att s j : Nat) : Int) ≤ ((att s j : Nat) : Int) - 1 := by omega
   by_cases h0 : 0 < j
   ·have HQ : Hid (fin s (att s (j - 1)) + 1 = att s j) := by
     obtain ⟨i, rfl⟩ : ∃ i, j = i + 1 := ⟨j - 1, by omega⟩
     rfl
    have HBs : qH 223 #[.string s, .agg #[.int .i64 (att s j), .int .i64 (fin s (att s j))], .int .i64 (-1)] (.tuple #[.agg #[.int .i64 (att s (j - 1)), .int .i64 (fin s (att s (j - 1)))], .bool true]) := fun ww => tBeside_up s _ _ _ j ww hs rfl hj rfl h0
    have Hor : Hid (1 ≤ n ∨ (1 ≤ att s j ∧ bt s (att s j - 1) = cl)) := hor
    clear hor
    go_wp2_with fail
    refine (HBs.out _).mono ?_
    rintro r3 w3 ⟨rfl, h3⟩
    obtain ⟨hc3, hf3, hz3⟩ := qb h3
    (try simp at hz3)
    have T3 : Two w3 (w1.heap.size) (att s j) (fin s (att s j)) := qTw
    have ⟨T3_0, T3_1, T3_z, T3_l⟩ := T3
    clear hc3 hf3
    go_wp2
    have hq9 := HQ.out
    go_roundg j
    case measure => omega
    case rel =>
     refine Or.inl ⟨j - 1, att s j, n, by omega, by omega, rfl, rfl, ?_, by omega, by omega, hn, Hor.out, hu, rfl, Two.set1 (Two.set0 T3 _) _, ?_⟩
     ·have := fin_ge s (att s (j - 1)); omega
     ·repeat exact qB
   ·have e0 : j = 0 := by omega
    have ea : att s j = 0 := by rw [e0]; rfl
    have HZ : Hid (X = -1) := by rw [Hid, ← hu.out, ea]; rfl
    have HBs : qH 223 #[.string s, .agg #[.int .i64 (att s j), .int .i64 (fin s (att s j))], .int .i64 (-1)] (.tuple #[.agg #[.int .i64 (0), .int .i64 (0)], .bool false]) := fun ww => tBeside_none s _ _ _ ww hs (Or.inr rfl) (fun h => by omega) (fun _ => by omega)
    clear ea e0 hor hu
    go_wp2_with fail
    refine (HBs.out _).mono ?_
    rintro r3 w3 ⟨rfl, h3⟩
    obtain ⟨hc3, hf3, hz3⟩ := qb h3
    (try simp at hz3)
    have T3 : Two w3 (w1.heap.size) (att s j) (fin s (att s j)) := qTw
    have ⟨T3_0, T3_1, T3_z, T3_l⟩ := T3
    clear hc3 hf3
    go_wp2
    go_roundg 0
    case measure => omega
    case rel =>
     refine Or.inr ⟨HZ, rfl, ?_⟩
     repeat exact qB
 ) : P := h
theorem tSeekE_gen (cl op : Int) (I J : Nat) (hix : firstIdx ⟨#[40, 41, 91, 93, 123, 125]⟩ cl.toNat.toUInt8 = I) (hbx : bits BinOp.xor IntKind.i64 I 1 = J) (hJ : J < 6) (hel : (((⟨#[40, 41, 91, 93, 123, 125]⟩ : ByteArray)[J]'hJ).toNat : Int) = op) (hpar : (((I : Int) % 2) == 1) = true) (hne : (op == cl) = false) (hn10 : 32 ≤ cl) (hn11 : 32 ≤ op) (hn12 : ¬ op = cl) (s : ByteArray) (q d : Nat) (w : World) (hs : s.size ≤ 1000) (hq : q ≤ s.size) (hd : d ≤ 1) (hd0 : 1 ≤ d ∨ bt s q = cl) :
  qC 287 #[.string s, .int .u8 cl, .int .i64 q, .int .i64 d] w (.tuple #[.int .i64 (mtI (mtD s cl op d (q + 1))), .bool (mtB (mtD s cl op d (q + 1)))]) := by
 generalize hX : mtD s cl op d (q + 1) = X
 have HX : Hid (mtD s cl op d (q + 1) = X) := hX
 clear hX
 have hq' : q ≤ s.size := by omega
 have hm := lin_lt hq'
 have HL : qH 195 #[.string s, .int .i64 q] (.agg #[.int .i64 (att s (lin s q)), .int .i64 (fin s (att s (lin s q)))]) := by
  intro ww
  have := tLine_any s q q ww hs rfl hq'
  rw [fin_eq hq', beg_eq hq'] at this
  exact this
 go_enter func287, ntmps287
 go_wp2_with fail
 go_step3
 go_wp2_with fail
 refine (indexByte_any ⟨#[40, 41, 91, 93, 123, 125]⟩ cl _).mono ?_
 rintro e w9 ⟨rfl, h9⟩
 have h9 := h9.symm
 subst h9
 rw [hix]
 go_wp2_with fail
 refine (HL.out _).mono ?_
 rintro e w1 ⟨rfl, h1⟩
 obtain ⟨hc1, hf1, hz1⟩ := qb h1
 try simp at hz1
 go_wp2
 go_step3
 go_wp2
 go_loopg [2, 3, 14] (lin s q + 1) (fun g pl dp mo wr => (∃ j K m : Nat, j < lns s ∧ g = j + 1 ∧ pl = .int .i64 ((K : Int) - 1) ∧ dp = .int .i64 m ∧ att s j ≤ K ∧ K ≤ fin s (att s j) + 1 ∧ K ≤ s.size + 1 ∧ m + K ≤ 1002 ∧ (1 ≤ m ∨ (1 ≤ K ∧ bt s (K - 1) = cl)) ∧ Hid (mtD s cl op m K = X) ∧ mo = .bool true ∧ Two wr w1.heap.size (att s j) (fin s (att s j)) ∧ Below w.heap.size w wr) ∨ (Hid (X = -1) ∧ mo = .bool false ∧ Below w.heap.size w wr))
 case atStart =>
  have ha : att s (lin s q) ≤ q := by rw [← beg_eq hq']; exact beg_le s q
  have hf : q ≤ fin s (att s (lin s q)) := by rw [← fin_eq hq']; exact fin_ge s q
  refine Or.inl ⟨lin s q, q + 1, d, hm, rfl, by first | rfl | (congr 1; omega), rfl, by omega, by omega, by omega, by omega, ?_, HX, rfl, Two.new _ _ _ _, ?_⟩
  ·rcases hd0 with h | h
   ·exact Or.inl h
   ·exact Or.inr ⟨by omega, h⟩
  ·repeat exact qB
 case round =>
  rcases hrel with ⟨j, K, m, hj, hg, rfl, rfl, hka, hkf, hks, hmb, hor, hu, rfl, T, hB⟩ | ⟨HZ, rfl, hB⟩
  ·have t0 := (T).c0
   have t1 := (T).c1
   have tz := (T).fz
   have tl := (T).lt
   have hfl := fin_le (att_in hj).1
   have hfg := fin_ge s (att s j)
   by_cases hK : fin s (att s j) < K
   ·have eK : K = fin s (att s j) + 1 := by omega
    have h10 : bt s (fin s (att s j)) = 10 ∨ bt s (fin s (att s j)) = -1 := by
     by_cases hfs : fin s (att s j) < s.size
     ·left
      have h := fin_nl (s := s) (p := att s j) hfs
      unfold Nib.nl at h
      simpa using h
     ·right
      unfold bt
      rw [dif_neg qo]
    have hm1 : 1 ≤ m := by
     rcases hor with h | h
     ·exact h
     ·have h2 := h.2
      rw [eK, Nat.add_sub_cancel] at h2
      omega
    have hu2 : Hid (mtD s cl op m (fin s (att s j)) = X) := by
     rw [Hid, ← hu.out, eK]
     have e : dep s cl op m (fin s (att s j)) = (m : Int) := by unfold dep; rw [if_neg qo, if_neg qo]; omega
     simp only [mtD]
     rw [e, if_neg qo]
    have hu := hu2
    have hor : 1 ≤ m ∨ (1 ≤ fin s (att s j) ∧ bt s (fin s (att s j) - 1) = cl) := Or.inl hm1
    have hKI : ((fin s (att s j) : Nat) : Int) - 1 < (K : Int) - 1 := by omega
    clear hu2 h10
    have HEK : Hid (K = fin s (att s j) + 1) := eK
    clear eK
    have hmf : m + fin s (att s j) ≤ 1002 := by omega
    go_wp2
    go_loopg [2, 3] (fin s (att s j) - att s j) (fun g2 pl dp wx => ∃ k n : Nat, att s j ≤ k ∧ k ≤ fin s (att s j) ∧ g2 = k - att s j ∧ pl = .int .i64 ((k : Int) - 1) ∧ dp = .int .i64 n ∧ n + k ≤ 1002 ∧ (1 ≤ n ∨ (1 ≤ k ∧ bt s (k - 1) = cl)) ∧ Hid (mtD s cl op n k = X) ∧ wx = wr)
    case atStart => exact ⟨fin s (att s j), m, by omega, by omega, rfl, by first | rfl | (congr 1; omega), rfl, by omega, hor, hu, rfl⟩
    case round =>
     exact qt6
   ·have hKI : ¬ ((fin s (att s j) : Nat) : Int) - 1 < (K : Int) - 1 := by omega
    have hKI2 : (K : Int) - 1 ≤ ((fin s (att s j) : Nat) : Int) - 1 := by omega
    clear hKI
    go_wp2
    go_loopg [2, 3] (K - att s j) (fun g2 pl dp wx => ∃ k n : Nat, att s j ≤ k ∧ k ≤ fin s (att s j) ∧ g2 = k - att s j ∧ pl = .int .i64 ((k : Int) - 1) ∧ dp = .int .i64 n ∧ n + k ≤ 1002 ∧ (1 ≤ n ∨ (1 ≤ k ∧ bt s (k - 1) = cl)) ∧ Hid (mtD s cl op n k = X) ∧ wx = wr)
    case atStart => exact ⟨K, m, by omega, by omega, rfl, by first | rfl | (congr 1; omega), rfl, by omega, hor, hu, rfl⟩
    case round =>
     exact qt6
  ·go_wp2
   (try rw [Exit.noGoto_ret])
   all_goals
    first
     | (exact qV (.tuple #[.int .i64 0, .bool false]) (by simp [results, results287, go_sem]) (by rw [HZ.out]; rfl))
theorem tSeekE_41 (s : ByteArray) (q d : Nat) (w : World) (hs : s.size ≤ 1000) (hq : q ≤ s.size) (hd : d ≤ 1) (hd0 : 1 ≤ d ∨ bt s q = 41) :
  qC 287 #[.string s, .int .u8 41, .int .i64 q, .int .i64 d] w (.tuple #[.int .i64 (mtI (mtD s 41 40 d (q + 1))), .bool (mtB (mtD s 41 40 d (q + 1)))]) :=
 tSeekE_gen 41 40 1 0 qd qd qd qd qd qd qd qd qd s q d w hs hq hd hd0
theorem tSeekE_93 (s : ByteArray) (q d : Nat) (w : World) (hs : s.size ≤ 1000) (hq : q ≤ s.size) (hd : d ≤ 1) (hd0 : 1 ≤ d ∨ bt s q = 93) :
  qC 287 #[.string s, .int .u8 93, .int .i64 q, .int .i64 d] w (.tuple #[.int .i64 (mtI (mtD s 93 91 d (q + 1))), .bool (mtB (mtD s 93 91 d (q + 1)))]) :=
 tSeekE_gen 93 91 3 2 qd qd qd qd qd qd qd qd qd s q d w hs hq hd hd0
theorem sWordStep_any (s : ByteArray) (r : Nat) (g : Bool) (w : World) (hs : s.size ≤ 1000) (hr : r ≤ s.size) :
  qC 249 #[.string s, .int .i64 r, .bool g] w (.int .i64 (wstep s g r)) := by
 have hw := wfrom_le (g := g) hr
 have HI : qH 282 #[.string s, .int .i64 (wfrom s r g : Nat), .bool true] (.int .i64 (wstep s g r)) := by
  intro ww
  refine sNextInk_any s (wfrom s r g) true (wgap s r) ww hs hw ?_ ?_ ?_
  ·intro i h; exact wgap1 s r i h
  ·intro i _ _ h h2
   refine wgap2 s r i g h ?_
   rcases h2 with h2 | h2 | h2
   ·exact absurd h2 qi
   ·exact Or.inl h2
   ·exact Or.inr h2
  ·intro _ i h h2; exact wgap3 s r i g h h2
 have HK : Hid (∀ ww, Calls Tryz.prog 247 #[.string s, .int .i64 r] ww fun e w' => e = .returned (.bool (decide (r < s.size) && !spc (bt s r))) ∧ w' = ww) := fun ww => sHasInk_any s r r ww hs rfl hr
 generalize wstep s g r = X at *
 by_cases hk : r < s.size ∧ spc (bt s r) = false
 ·have e1 : (decide (r < s.size) && !spc (bt s r)) = true := by rw [hk.2, decide_eq_true hk.1]; rfl
  have e2 : wfrom s r g = wrun s r g := by unfold wfrom; rw [if_pos hk]
  rw [e1] at HK
  rw [e2] at HI
  have hnl : bt s r ≠ 10 := by have := spc_nl_f hk.2; unfold Nib.nl at this; simpa using this
  have HR : qH 256 #[.string s, .int .i64 r, .bool g] (.agg #[.int .i64 (runB s r g), .int .i64 (wrun s r g)]) := fun ww => tRun_any s r r g ww hs rfl hk.1 hnl
  clear e1 e2 hk hnl hw
  have hx := ix1 (runB s r g) (wrun s r g)
  generalize runB s r g = A at *
  generalize wrun s r g = B at *
  go_enter func249, ntmps249
  go_wp2_with fail
  refine (HK.out _).mono ?_
  rintro e w' ⟨rfl, rfl⟩
  go_wp2_with fail
  refine (HR.out _).mono ?_
  rintro e w1 ⟨rfl, h1⟩
  obtain ⟨hc1, hf1, hz1⟩ := qb h1
  try simp at hz1
  go_wp2_with fail
  refine (HI.out _).mono ?_
  rintro e w2 ⟨rfl, h2⟩
  obtain ⟨hc2, hf2, hz2⟩ := qb h2
  try simp at hz2
  go_wp2
  all_goals
   first
    | (exact qV (.int .i64 X) (by simp [results, results249, go_sem]) rfl)
 ·have e1 : (decide (r < s.size) && !spc (bt s r)) = false := by
   cases hs : spc (bt s r) with
   | true => simp
   | false => rw [hs] at hk; simp only [and_true] at hk; simp [hk]
  have e2 : wfrom s r g = r := by unfold wfrom; rw [if_neg hk]
  rw [e1] at HK
  rw [e2] at HI
  clear e1 e2 hk hw
  go_enter func249, ntmps249
  go_wp2_with fail
  refine (HK.out _).mono ?_
  rintro e w' ⟨rfl, rfl⟩
  go_wp2_with fail
  refine (HI.out _).mono ?_
  rintro e w2 ⟨rfl, h2⟩
  obtain ⟨hc2, hf2, hz2⟩ := qb h2
  try simp at hz2
  go_wp2
  all_goals
   first
    | (exact qV (.int .i64 X) (by simp [results, results249, go_sem]) rfl)
theorem mBecome (r d : Nat) (p : Pg) (x : ByteArray) (w : World) (h : RdAt w r d p) (hx : x.size ≤ 1000) :
  Calls Tryz.prog 175 #[.pointer (some ⟨d, 0, none⟩), .string x] w fun e w' => e = .returned (.bool true) ∧ RdAt w' r d { p with t := x } ∧ Upd [d] w w' := by
 have H := h
 have HS := h.set_t x
 have c0 := h.dk.c0
 have fz := h.dk.fz
 have lt := h.dk.lt
 have hy : ((1000 : Int) < x.size) = False := by simp; omega
 generalize ({ p with t := x } : Pg) = p2 at *
 clear h hx
 go_enter func175, ntmps175
 go_wp2
 go_ret
 exact ⟨rfl, HS, Upd.setCell (Upd.refl _ _) (Or.inl qi) _⟩
theorem mBecome_long (r d : Nat) (x : ByteArray) (w : World) (hx : 1000 < x.size) :
  Calls Tryz.prog 175 #[.pointer (some ⟨d, 0, none⟩), .string x] w fun e w' => e = .returned (.bool false) ∧ w' = w := by
 have hy : ((1000 : Int) < x.size) = True := by simp; omega
 clear hx
 go_enter func175, ntmps175
 go_wp2
 go_ret
 exact ⟨rfl, rfl⟩
structure RgAt (w : World) (m : Nat) (f : Int → Value) : Prop where
 out : ∃ (es : Array MapEntry) (k : Nat), w.heap[m]? = some (.map es k) ∧ RgOk es.toList ∧ ∀ d, rgVal (rgFind es.toList d 0) = f d
def rgSet (f : Int → Value) (c : Int) (v : Value) : Int → Value := fun d => if d = c then v else f d
theorem RgAt.lt {w : World} {m : Nat} {f : Int → Value} (h : RgAt w m f) : m < w.heap.size := by
 obtain ⟨es, k, h1, _⟩ := h.out
 exact (Array.getElem?_eq_some_iff.1 h1).1
theorem RgAt.update {w : World} {m : Nat} {f : Int → Value} (h : RgAt w m f) (c : Int) (t : ByteArray) (l : Bool) :
  ∃ w' : World, (Instr.mapUpdate 90 (.map (some m)) (.int .u8 c) (.agg #[.string t, .bool l])).run Tryz.prog w = .ok () w' ∧ RgAt w' m (rgSet f c (.agg #[.string t, .bool l])) ∧ Upd [m] w w' := by
 obtain ⟨es, k, h1, h2, h3⟩ := h.out
 obtain ⟨es', k', g1, g2, g3⟩ := rg_update m k c t l es w h1 h2
 have hl := h.lt
 refine ⟨_, g1, ⟨es', k', by simp [hl], g2, ?_⟩, ?_⟩
 ·intro d
  rw [g3 d]
  unfold rgSet
  split
  ·rfl
  ·exact h3 d
 ·refine ⟨rfl, rfl, rfl, by simp, fun i hi hn => ?_⟩
  have : m ≠ i := by intro e; subst e; exact hn qi
  exact Array.getElem?_setIfInBounds_ne this
theorem RgAt.of_block {w w' : World} {m : Nat} {f : Int → Value} (h : RgAt w m f) (hb : w'.heap[m]? = w.heap[m]?) : RgAt w' m f := by
 obtain ⟨es, k, h1, h2⟩ := h.out
 exact ⟨es, k, hb.trans h1, h2⟩
theorem RgAt.below {w w' : World} {m : Nat} {f : Int → Value} (h : RgAt w m f) (hb : Below w.heap.size w w') : RgAt w' m f := h.of_block (hb.block m h.lt)
theorem RgAt.alloc {w : World} {m : Nat} {f : Int → Value} (h : RgAt w m f) (o : Obj) : RgAt (w.alloc o) m f := h.below ((Below.refl _ _).alloc (Nat.le_refl _) _)
theorem RgAt.drew {w : World} {m : Nat} {f : Int → Value} (h : RgAt w m f) : RgAt w.drew m f := h.below (Below.refl _ _).drew
theorem RgAt.drewN {w : World} {m : Nat} {f : Int → Value} (h : RgAt w m f) (n : Nat) : RgAt (w.drewN n) m f := h.below (below_drewN (Below.refl _ _) _)
theorem RgAt.other {w : World} {m : Nat} {f : Int → Value} (h : RgAt w m f) {q : Addr} (hp : m ≠ q.block) (u : Value) : RgAt (w.setCell q u) m f := h.of_block (Below.heap_setCell _ _ _ _ hp)
theorem rWrite_none (m : Nat) (t : ByteArray) (l : Bool) (f : Int → Value) (w : World) (h : RgAt w m f) :
  Calls Tryz.prog 177 #[.map (some m), .int .u8 0, .agg #[.string t, .bool l]] w fun e w' => e = .returned (.tuple #[]) ∧ RgAt w' m (rgSet f 34 (.agg #[.string t, .bool l])) ∧ Upd [m] w w' := by
 obtain ⟨w1, g1, g2, g3⟩ := (h.alloc (.cells #[.string t, .bool l] 99)).update 34 t l
 clear h
 go_enter func177, ntmps177
 go_wp2
 go_end0
 exact ⟨rfl, g2, (Upd.alloc (Upd.refl _ _) _).trans g3⟩
theorem rWrite_named (m : Nat) (c : Int) (t : ByteArray) (l : Bool) (f : Int → Value) (w : World) (h : RgAt w m f) (hc : c ≠ 0) :
  Calls Tryz.prog 177 #[.map (some m), .int .u8 c, .agg #[.string t, .bool l]] w fun e w' => e = .returned (.tuple #[]) ∧ RgAt w' m (rgSet (rgSet f 34 (.agg #[.string t, .bool l])) c (.agg #[.string t, .bool l])) ∧ Upd [m] w w' := by
 obtain ⟨w1, g1, g2, g3⟩ := (h.alloc (.cells #[.string t, .bool l] 99)).update 34 t l
 obtain ⟨w2, k1, k2, k3⟩ := g2.update c t l
 have hl := h.lt
 have hb := g3.block w.heap.size qi qs
 have c0 : w1.cell? ⟨w.heap.size, 0, none⟩ = some (.string t) := (World.cell?_of_block (w := w.alloc (.cells #[.string t, .bool l] 99)) hb).trans qi
 have c1 : w1.cell? ⟨w.heap.size, 1, none⟩ = some (.bool l) := (World.cell?_of_block (w := w.alloc (.cells #[.string t, .bool l] 99)) hb).trans qi
 clear h hb
 go_enter func177, ntmps177
 go_wp2
 go_end0
 exact ⟨rfl, k2, ((Upd.alloc (Upd.refl _ _) _).trans g3).trans k3⟩
theorem mEnd_did (b r d g n cap : Nat) (ns : List Int) (dg : ByteArray) (w : World) (hb : BdAt w b r d (.slice (some ⟨g, 0, none⟩) n cap) dg) (ho : w.ownsRow 0 5 1 (.slice (some ⟨g, 0, none⟩) n cap) n (ns.map (Value.int .u8))) (hn0 : 0 < n) (hl : ns.length = n) :
  Calls Tryz.prog 48 #[.pointer (some ⟨b, 1, none⟩), .int .i64 2] w fun e w' => e = .returned (.tuple #[]) ∧ BdAt w' b r d (.slice none 0 0) (strOfNums ns) ∧ Upd [b] w w' := by
 have HS := (hb.set_dg (strOfNums ns)).set_tv (.slice none 0 0)
 have hcv : (convert 48 9 (.slice (some ⟨g, 0, none⟩) n cap)).run Tryz.prog w = .ok (.string (strOfNums ns)) w := by
  refine run_convert_bytes_arg w 48 5 underlying48 underlying5 g 0 n cap ns hl ?_ 9 underlying9
  intro i hi
  have hx := ho.cells (g := g) rfl i (.int .u8 (ns.getD i 0)) (by
   rw [List.getElem?_map]
   rw [List.getElem?_eq_getElem qo]
   simp [List.getD_eq_getElem?_getD, List.getElem?_eq_getElem (show i < ns.length by omega)])
  have ha : (⟨g, 0, none⟩ : Addr).add i = ⟨g, 0 + i, none⟩ := by unfold Addr.add; split <;> simp_all
  rw [ha] at hx
  exact hx
 obtain ⟨b0, b1, b2, b3, b4, b5, bz, bl⟩ := hb
 have hn1 : (0 : Int) < ((n : Nat) : Int) := by omega
 generalize strOfNums ns = X at *
 clear ho
 go_enter func48, ntmps48
 go_wp2
 go_end0
 refine ⟨rfl, HS, ?_⟩
 repeat exact qU
