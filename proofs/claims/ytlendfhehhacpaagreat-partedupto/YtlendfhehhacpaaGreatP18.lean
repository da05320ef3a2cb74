/- A part. -/
import Derived.Test.YtlendfhehhacpaaGreatP16
import Derived.Test.YtlendfhehhacpaaGreatP14
set_option linter.unusedVariables false
set_option linter.unusedSimpArgs false
set_option maxRecDepth 100000
set_option maxHeartbeats 8000000
namespace Go.Proofs.YtlendfhehhacpaaGreat
open Go.RowKit
def mtI (x : Int) : Int := if x < 0 then 0 else x
def mtB (x : Int) : Bool := decide (0 ≤ x)
theorem qt4 {P : Prop} (h : P := by
  clear hu hor hmb
  obtain ⟨i, n, hi1, hi2, rfl, rfl, hn, hor, hu, rfl⟩ := hrel
  have hfl := Nib.fin_le (Nib.att_in hj).1
  have hle' : ((Nib.att s j : Nat) : Int) ≤ (i : Int) := by omega
  by_cases hlt : i < Nib.fin s (Nib.att s j)
  ·have his : i < s.size := by omega
   have ef : s.size - i = (s.size - (i + 1)) + 1 := by omega
   by_cases h40 : Nib.bt s i = cl
   ·have hcc : (((s[i]'his).toNat : Int) == cl) = true := by rw [← Nib.bt_in his]; simp [h40]
    have HS : Hid (Nib.mtU s cl op (s.size - (i + 1)) ((n + 1 : Nat) : Int) (i + 1) = X) := by
     rw [Hid, ← hu.out, ef]
     have e : Nib.dep s cl op n i = ((n + 1 : Nat) : Int) := by unfold Nib.dep; rw [if_pos h40, if_neg qo]; omega
     simp only [Nib.mtU]
     rw [if_pos his, e, if_neg qo]
    clear hu hor h40 ef
    go_wp2
    go_roundg (Nib.fin s (Nib.att s j) - (i + 1))
    case measure => omega
    case rel => exact ⟨i + 1, n + 1, by omega, by omega, by go_num, by go_num, by omega, Or.inl qo, HS, rfl⟩
   ·have hcc : (((s[i]'his).toNat : Int) == cl) = false := by rw [← Nib.bt_in his]; simp [h40]
    have hn1 : 1 ≤ n := by
     rcases hor with h | h
     ·exact h
     ·exact absurd h h40
    by_cases h41 : Nib.bt s i = op
    ·have hcd : (((s[i]'his).toNat : Int) == op) = true := by rw [← Nib.bt_in his]; simp [h41]
     have e : Nib.dep s cl op n i = (n : Int) - 1 := by unfold Nib.dep; rw [if_neg h40, if_pos h41]; omega
     by_cases hn2 : n = 1
     ·have HS : Hid (X = (i : Int)) := by
       rw [Hid, ← hu.out, ef]
       simp only [Nib.mtU]
       rw [if_pos his, e, if_pos qo]
      subst hn2
      clear hu hor h40 h41 e ef
      go_wp2
      (try rw [Exit.noGoto_ret])
      all_goals
       first
        | (exact qV (.tuple #[.int .i64 i, .bool true]) (by simp [results, Tryz.results287, go_sem]) (by rw [HS.out]; unfold mtI mtB; rw [if_neg qo, decide_eq_true qo]))
     ·have HS : Hid (Nib.mtU s cl op (s.size - (i + 1)) ((n - 1 : Nat) : Int) (i + 1) = X) := by
       rw [Hid, ← hu.out, ef]
       simp only [Nib.mtU]
       rw [if_pos his, e, if_neg qo, show ((n - 1 : Nat) : Int) = (n : Int) - 1 by omega]
      have hm0 : (((n : Int) - 1) == 0) = false := by simp; omega
      clear hu hor h40 h41 e ef
      go_wp2
      go_roundg (Nib.fin s (Nib.att s j) - (i + 1))
      case measure => omega
      case rel => exact ⟨i + 1, n - 1, by omega, by omega, by go_num, by first | rfl | (congr 1; omega), by omega, Or.inl qo, HS, rfl⟩
    ·have hcd : (((s[i]'his).toNat : Int) == op) = false := by rw [← Nib.bt_in his]; simp [h41]
     have HS : Hid (Nib.mtU s cl op (s.size - (i + 1)) (n : Int) (i + 1) = X) := by
      rw [Hid, ← hu.out, ef]
      have e : Nib.dep s cl op n i = (n : Int) := by unfold Nib.dep; rw [if_neg h40, if_neg h41]; omega
      simp only [Nib.mtU]
      rw [if_pos his, e, if_neg qo]
     clear hu hor h40 h41 ef
     go_wp2
     go_roundg (Nib.fin s (Nib.att s j) - (i + 1))
     case measure => omega
     case rel => exact ⟨i + 1, n, by omega, by omega, by go_num, rfl, by omega, Or.inl hn1, HS, rfl⟩
  ·have HEI : Hid (i = Nib.fin s (Nib.att s j)) := (by omega : i = Nib.fin s (Nib.att s j))
   have hgeI : ¬ (i : Int) < ((Nib.fin s (Nib.att s j) : Nat) : Int) := by omega
   by_cases hne : j + 1 < Nib.lns s
   ·have hef := Nib.fin_lt_of hne
    have h10 : Nib.bt s i = 10 := by
     have h := Nib.fin_nl hef
     rw [← HEI.out] at h
     unfold Nib.nl at h
     simpa using h
    have hn1 : 1 ≤ n := by
     rcases hor with h | h
     ·exact h
     ·omega
    have HS : Hid (Nib.mtU s cl op (s.size - Nib.att s (j + 1)) (n : Int) (Nib.att s (j + 1)) = X) := by
     have h9 : Nib.att s (j + 1) = i + 1 := by rw [HEI.out]; rfl
     have his : i < s.size := by have := HEI.out; omega
     rw [Hid, ← hu.out, h9, show s.size - i = (s.size - (i + 1)) + 1 by omega]
     have e : Nib.dep s cl op n i = (n : Int) := by unfold Nib.dep; rw [if_neg qo, if_neg qo]; omega
     simp only [Nib.mtU]
     rw [if_pos his, e, if_neg qo]
    clear hu hor h10
    have HBs : qH 223 #[.string s, .agg #[.int .i64 (Nib.att s j), .int .i64 (Nib.fin s (Nib.att s j))], .int .i64 1] (.tuple #[.agg #[.int .i64 (Nib.att s (j + 1)), .int .i64 (Nib.fin s (Nib.att s (j + 1)))], .bool true]) := fun ww => tBeside_down s _ _ _ j ww hs rfl rfl rfl hne
    go_wp2_with fail
    refine (HBs.out _).mono ?_
    rintro r2 w2 ⟨rfl, h2⟩
    obtain ⟨hc2, hf2, hz2⟩ := qb h2
    (try simp at hz2)
    have T2 : Two w2 (w1.heap.size) (Nib.att s j) (Nib.fin s (Nib.att s j)) := qTw
    have ⟨T2_0, T2_1, T2_z, T2_l⟩ := T2
    clear hc2 hf2
    go_wp2
    go_roundg (Nib.lns s - (j + 1))
    case measure => omega
    case rel =>
     have h9 : Nib.att s (j + 1) = i + 1 := by rw [HEI.out]; rfl
     refine Or.inl ⟨j + 1, i, Nib.att s (j + 1), n, hne, by omega, rfl, rfl, by omega, Nib.fin_ge _ _, by omega, Or.inl hn1, HS, rfl, Two.set1 (Two.set0 T2 _) _, ?_⟩
     repeat exact qB
   ·have hF := Nib.fin_last (s := s) (m := j) qo
    have HZ : Hid (X = -1) := by
     rw [Hid, ← hu.out, show s.size - i = 0 by have := HEI.out; omega]
     rfl
    clear hu hor
    have HBs : qH 223 #[.string s, .agg #[.int .i64 (Nib.att s j), .int .i64 (Nib.fin s (Nib.att s j))], .int .i64 1] (.tuple #[.agg #[.int .i64 (0), .int .i64 (0)], .bool false]) := fun ww => tBeside_none s _ _ _ ww hs (Or.inl rfl) (fun _ => by omega) (fun h => by omega)
    clear hF
    go_wp2_with fail
    refine (HBs.out _).mono ?_
    rintro r2 w2 ⟨rfl, h2⟩
    obtain ⟨hc2, hf2, hz2⟩ := qb h2
    (try simp at hz2)
    have T2 : Two w2 (w1.heap.size) (Nib.att s j) (Nib.fin s (Nib.att s j)) := qTw
    have ⟨T2_0, T2_1, T2_z, T2_l⟩ := T2
    clear hc2 hf2
    go_wp2
    go_roundg 0
    case measure => omega
    case rel =>
     refine Or.inr ⟨HZ, rfl, ?_⟩
     repeat exact qB
 ) : P := h
theorem tSeek_gen (cl op : Int) (I J : Nat) (hix : firstIdx ⟨#[40, 41, 91, 93, 123, 125]⟩ cl.toNat.toUInt8 = I) (hbx : bits BinOp.xor IntKind.i64 I 1 = J) (hJ : J < 6) (hel : (((⟨#[40, 41, 91, 93, 123, 125]⟩ : ByteArray)[J]'hJ).toNat : Int) = op) (hpar : (((I : Int) % 2) == 1) = false) (hne : (op == cl) = false) (hn10 : 32 ≤ cl) (hn11 : 32 ≤ op) (hn12 : ¬ op = cl) (s : ByteArray) (q d : Nat) (w : World) (hs : s.size ≤ 1000) (hq : q < s.size) (hd : d ≤ 1) (hd0 : 1 ≤ d ∨ Nib.bt s q = cl) :
  qC 287 #[.string s, .int .u8 cl, .int .i64 q, .int .i64 d] w (.tuple #[.int .i64 (mtI (Nib.mtU s cl op (s.size - q) d q)), .bool (mtB (Nib.mtU s cl op (s.size - q) d q))]) := by
 generalize hX : Nib.mtU s cl op (s.size - q) d q = X
 have HX : Hid (Nib.mtU s cl op (s.size - q) d q = X) := hX
 clear hX
 have hq' : q ≤ s.size := by omega
 have hm := Nib.lin_lt hq'
 have HL : qH 195 #[.string s, .int .i64 q] (.agg #[.int .i64 (Nib.att s (Nib.lin s q)), .int .i64 (Nib.fin s (Nib.att s (Nib.lin s q)))]) := by
  intro ww
  have := tLine_any s q q ww hs rfl hq'
  rw [Nib.fin_eq hq', Nib.beg_eq hq'] at this
  exact this
 go_enter Tryz.func287, Tryz.ntmps287
 go_wp2_with fail
 go_step3
 go_wp2_with fail
 refine (indexByte_any ⟨#[40, 41, 91, 93, 123, 125]⟩ cl _).mono ?_
 rintro e w9 ⟨rfl, h9⟩
 have h9 := h9.symm
 subst h9
 rw [hix]
 go_wp2_with fail
 refine (HL.out _).mono ?_
 rintro e w1 ⟨rfl, h1⟩
 obtain ⟨hc1, hf1, hz1⟩ := qb h1
 try simp at hz1
 go_wp2
 go_step3
 go_wp2
 go_loopg [2, 3, 14] (Nib.lns s - Nib.lin s q) (fun g pl dp mo wr => (∃ j pv b m : Nat, j < Nib.lns s ∧ g + j = Nib.lns s ∧ pl = .int .i64 pv ∧ dp = .int .i64 m ∧ b = max pv (Nib.att s j) ∧ b ≤ Nib.fin s (Nib.att s j) ∧ m ≤ b + 1 ∧ (1 ≤ m ∨ Nib.bt s b = cl) ∧ Hid (Nib.mtU s cl op (s.size - b) m b = X) ∧ mo = .bool true ∧ Two wr w1.heap.size (Nib.att s j) (Nib.fin s (Nib.att s j)) ∧ Below w.heap.size w wr) ∨ (Hid (X = -1) ∧ mo = .bool false ∧ Below w.heap.size w wr))
 case atStart =>
  refine Or.inl ⟨Nib.lin s q, q, q, d, hm, ?_, rfl, rfl, ?_, ?_, by omega, hd0, HX, rfl, Two.new _ _ _ _, ?_⟩
  ·omega
  ·rw [← Nib.beg_eq hq']; have := Nib.beg_le s q; omega
  ·rw [← Nib.fin_eq hq']; exact Nib.fin_ge s q
  ·repeat exact qB
 case round =>
  rcases hrel with ⟨j, pv, b, m, hj, hg, rfl, rfl, hb, hbf, hmb, hor, hu, rfl, T, hB⟩ | ⟨HZ, rfl, hB⟩
  ·have t0 := (T).c0
   have t1 := (T).c1
   have tz := (T).fz
   have tl := (T).lt
   by_cases hpv : (pv : Int) < (Nib.att s j : Nat)
   ·have eb : b = Nib.att s j := by omega
    subst eb
    clear hb
    go_wp2
    go_loopg [2, 3] (Nib.fin s (Nib.att s j) - Nib.att s j) (fun g2 pl dp wx => ∃ i n : Nat, Nib.att s j ≤ i ∧ i + g2 = Nib.fin s (Nib.att s j) ∧ pl = .int .i64 i ∧ dp = .int .i64 n ∧ n ≤ i + 1 ∧ (1 ≤ n ∨ Nib.bt s i = cl) ∧ Hid (Nib.mtU s cl op (s.size - i) n i = X) ∧ wx = wr)
    case atStart => exact ⟨Nib.att s j, m, Nat.le_refl _, by omega, rfl, rfl, hmb, hor, hu, rfl⟩
    case round =>
     exact qt4
   ·have eb : pv = b := by omega
    have hpv' : ((Nib.att s j : Nat) : Int) ≤ (pv : Int) := by omega
    subst eb
    clear hb hpv
    go_wp2
    go_loopg [2, 3] (Nib.fin s (Nib.att s j) - pv) (fun g2 pl dp wx => ∃ i n : Nat, pv ≤ i ∧ i + g2 = Nib.fin s (Nib.att s j) ∧ pl = .int .i64 i ∧ dp = .int .i64 n ∧ n ≤ i + 1 ∧ (1 ≤ n ∨ Nib.bt s i = cl) ∧ Hid (Nib.mtU s cl op (s.size - i) n i = X) ∧ wx = wr)
    case atStart => exact ⟨pv, m, Nat.le_refl _, by omega, rfl, rfl, hmb, hor, hu, rfl⟩
    case round =>
     exact qt4
  ·go_wp2
   (try rw [Exit.noGoto_ret])
   all_goals
    first
     | (exact qV (.tuple #[.int .i64 0, .bool false]) (by simp [results, Tryz.results287, go_sem]) (by rw [HZ.out]; rfl))
theorem tSeek_91 (s : ByteArray) (q d : Nat) (w : World) (hs : s.size ≤ 1000) (hq : q < s.size) (hd : d ≤ 1) (hd0 : 1 ≤ d ∨ Nib.bt s q = 91) :
  qC 287 #[.string s, .int .u8 91, .int .i64 q, .int .i64 d] w (.tuple #[.int .i64 (mtI (Nib.mtU s 91 93 (s.size - q) d q)), .bool (mtB (Nib.mtU s 91 93 (s.size - q) d q))]) :=
 tSeek_gen 91 93 2 3 qd qd qd qd qd qd qd qd qd s q d w hs hq hd hd0
theorem tSeek_123 (s : ByteArray) (q d : Nat) (w : World) (hs : s.size ≤ 1000) (hq : q < s.size) (hd : d ≤ 1) (hd0 : 1 ≤ d ∨ Nib.bt s q = 123) :
  qC 287 #[.string s, .int .u8 123, .int .i64 q, .int .i64 d] w (.tuple #[.int .i64 (mtI (Nib.mtU s 123 125 (s.size - q) d q)), .bool (mtB (Nib.mtU s 123 125 (s.size - q) d q))]) :=
 tSeek_gen 123 125 4 5 qd qd qd qd qd qd qd qd qd s q d w hs hq hd hd0
theorem tSeek_40 (s : ByteArray) (q d : Nat) (w : World) (hs : s.size ≤ 1000) (hq : q < s.size) (hd : d ≤ 1) (hd0 : 1 ≤ d ∨ Nib.bt s q = 40) :
  qC 287 #[.string s, .int .u8 40, .int .i64 q, .int .i64 d] w (.tuple #[.int .i64 (mtI (Nib.mtU s 40 41 (s.size - q) d q)), .bool (mtB (Nib.mtU s 40 41 (s.size - q) d q))]) :=
 tSeek_gen 40 41 0 1 qd qd qd qd qd qd qd qd qd s q d w hs hq hd hd0
theorem qt6 {P : Prop} (h : P := by
  clear hu hor hmb
  obtain ⟨k, n, hk1, hk2, hk3, rfl, rfl, hn, hor, hu, rfl⟩ := hrel
  by_cases hlt : Nib.att s j < k
  ·obtain ⟨i, rfl⟩ : ∃ i, k = i + 1 := ⟨k - 1, by omega⟩
   have e1 : ((i + 1 : Nat) : Int) - 1 = (i : Int) := by omega
   rw [e1]
   have his : i < s.size := by omega
   have hle' : ((Nib.att s j : Nat) : Int) ≤ (i : Int) := by omega
   have hlt' : (i : Int) < ((Nib.fin s (Nib.att s j) : Nat) : Int) := by omega
   rw [Nat.add_sub_cancel] at hor
   by_cases hO : Nib.bt s i = cl
   ·have hcc : (((s[i]'his).toNat : Int) == cl) = true := by rw [← Nib.bt_in his]; simp [hO]
    have HS : Hid (Nib.mtD s cl op ((n + 1 : Nat) : Int) i = X) := by
     rw [Hid, ← hu.out]
     have e : Nib.dep s cl op n i = ((n + 1 : Nat) : Int) := by unfold Nib.dep; rw [if_pos hO, if_neg qo]; omega
     simp only [Nib.mtD]
     rw [e, if_neg qo]
    clear hu hor hO e1
    go_wp2
    go_roundg (i - Nib.att s j)
    case measure => omega
    case rel => exact ⟨i, n + 1, by omega, by omega, rfl, by first | rfl | (congr 1; omega), by go_num, by omega, Or.inl qo, HS, rfl⟩
   ·have hcc : (((s[i]'his).toNat : Int) == cl) = false := by rw [← Nib.bt_in his]; simp [hO]
    have hn1 : 1 ≤ n := by
     rcases hor with h | h
     ·exact h
     ·exact absurd h.2 hO
    by_cases hC : Nib.bt s i = op
    ·have hcd : (((s[i]'his).toNat : Int) == op) = true := by rw [← Nib.bt_in his]; simp [hC]
     have e : Nib.dep s cl op n i = (n : Int) - 1 := by unfold Nib.dep; rw [if_neg hO, if_pos hC]; omega
     by_cases hn2 : n = 1
     ·have HS : Hid (X = (i : Int)) := by
       rw [Hid, ← hu.out]
       simp only [Nib.mtD]
       rw [e, if_pos qo]
      subst hn2
      clear hu hor hO hC e e1
      go_wp2
      (try rw [Exit.noGoto_ret])
      all_goals
       first
        | (exact qV (.tuple #[.int .i64 i, .bool true]) (by simp [results, Tryz.results287, go_sem]) (by rw [HS.out]; unfold mtI mtB; rw [if_neg qo, decide_eq_true qo]))
     ·have HS : Hid (Nib.mtD s cl op ((n - 1 : Nat) : Int) i = X) := by
       rw [Hid, ← hu.out]
       simp only [Nib.mtD]
       rw [e, if_neg qo, show ((n - 1 : Nat) : Int) = (n : Int) - 1 by omega]
      have hm0 : (((n : Int) - 1) == 0) = false := by simp; omega
      clear hu hor hO hC e e1
      go_wp2
      go_roundg (i - Nib.att s j)
      case measure => omega
      case rel => exact ⟨i, n - 1, by omega, by omega, rfl, by first | rfl | (congr 1; omega), by first | rfl | (congr 1; omega), by omega, Or.inl qo, HS, rfl⟩
    ·have hcd : (((s[i]'his).toNat : Int) == op) = false := by rw [← Nib.bt_in his]; simp [hC]
     have HS : Hid (Nib.mtD s cl op (n : Int) i = X) := by
      rw [Hid, ← hu.out]
      have e : Nib.dep s cl op n i = (n : Int) := by unfold Nib.dep; rw [if_neg hO, if_neg hC]; omega
      simp only [Nib.mtD]
      rw [e, if_neg qo]
     clear hu hor hO hC e1
     go_wp2
     go_roundg (i - Nib.att s j)
     case measure => omega
     case rel => exact ⟨i, n, by omega, by omega, rfl, by first | rfl | (congr 1; omega), rfl, by omega, Or.inl hn1, HS, rfl⟩
  ·have ek : k = Nib.att s j := by omega
   subst ek
   have hge : ¬ ((Nib.att s j : Nat) : Int) ≤ ((Nib.att s j : Nat) : Int) - 1 := by omega
   by_cases h0 : 0 < j
   ·have HQ : Hid (Nib.fin s (Nib.att s (j - 1)) + 1 = Nib.att s j) := by
     obtain ⟨i, rfl⟩ : ∃ i, j = i + 1 := ⟨j - 1, by omega⟩
     rfl
    have HBs : qH 223 #[.string s, .agg #[.int .i64 (Nib.att s j), .int .i64 (Nib.fin s (Nib.att s j))], .int .i64 (-1)] (.tuple #[.agg #[.int .i64 (Nib.att s (j - 1)), .int .i64 (Nib.fin s (Nib.att s (j - 1)))], .bool true]) := fun ww => tBeside_up s _ _ _ j ww hs rfl hj rfl h0
    have Hor : Hid (1 ≤ n ∨ (1 ≤ Nib.att s j ∧ Nib.bt s (Nib.att s j - 1) = cl)) := hor
    clear hor
    go_wp2_with fail
    refine (HBs.out _).mono ?_
    rintro r3 w3 ⟨rfl, h3⟩
    obtain ⟨hc3, hf3, hz3⟩ := qb h3
    (try simp at hz3)
    have T3 : Two w3 (w1.heap.size) (Nib.att s j) (Nib.fin s (Nib.att s j)) := qTw
    have ⟨T3_0, T3_1, T3_z, T3_l⟩ := T3
    clear hc3 hf3
    go_wp2
    have hq9 := HQ.out
    go_roundg j
    case measure => omega
    case rel =>
     refine Or.inl ⟨j - 1, Nib.att s j, n, by omega, by omega, rfl, rfl, ?_, by omega, by omega, hn, Hor.out, hu, rfl, Two.set1 (Two.set0 T3 _) _, ?_⟩
     ·have := Nib.fin_ge s (Nib.att s (j - 1)); omega
     ·repeat exact qB
   ·have e0 : j = 0 := by omega
    have ea : Nib.att s j = 0 := by rw [e0]; rfl
    have HZ : Hid (X = -1) := by rw [Hid, ← hu.out, ea]; rfl
    have HBs : qH 223 #[.string s, .agg #[.int .i64 (Nib.att s j), .int .i64 (Nib.fin s (Nib.att s j))], .int .i64 (-1)] (.tuple #[.agg #[.int .i64 (0), .int .i64 (0)], .bool false]) := fun ww => tBeside_none s _ _ _ ww hs (Or.inr rfl) (fun h => by omega) (fun _ => by omega)
    clear ea e0 hor hu
    go_wp2_with fail
    refine (HBs.out _).mono ?_
    rintro r3 w3 ⟨rfl, h3⟩
    obtain ⟨hc3, hf3, hz3⟩ := qb h3
    (try simp at hz3)
    have T3 : Two w3 (w1.heap.size) (Nib.att s j) (Nib.fin s (Nib.att s j)) := qTw
    have ⟨T3_0, T3_1, T3_z, T3_l⟩ := T3
    clear hc3 hf3
    go_wp2
    go_roundg 0
    case measure => omega
    case rel =>
     refine Or.inr ⟨HZ, rfl, ?_⟩
     repeat exact qB
 ) : P := h
theorem tSeekE_gen (cl op : Int) (I J : Nat) (hix : firstIdx ⟨#[40, 41, 91, 93, 123, 125]⟩ cl.toNat.toUInt8 = I) (hbx : bits BinOp.xor IntKind.i64 I 1 = J) (hJ : J < 6) (hel : (((⟨#[40, 41, 91, 93, 123, 125]⟩ : ByteArray)[J]'hJ).toNat : Int) = op) (hpar : (((I : Int) % 2) == 1) = true) (hne : (op == cl) = false) (hn10 : 32 ≤ cl) (hn11 : 32 ≤ op) (hn12 : ¬ op = cl) (s : ByteArray) (q d : Nat) (w : World) (hs : s.size ≤ 1000) (hq : q ≤ s.size) (hd : d ≤ 1) (hd0 : 1 ≤ d ∨ Nib.bt s q = cl) :
  qC 287 #[.string s, .int .u8 cl, .int .i64 q, .int .i64 d] w (.tuple #[.int .i64 (mtI (Nib.mtD s cl op d (q + 1))), .bool (mtB (Nib.mtD s cl op d (q + 1)))]) := by
 generalize hX : Nib.mtD s cl op d (q + 1) = X
 have HX : Hid (Nib.mtD s cl op d (q + 1) = X) := hX
 clear hX
 have hq' : q ≤ s.size := by omega
 have hm := Nib.lin_lt hq'
 have HL : qH 195 #[.string s, .int .i64 q] (.agg #[.int .i64 (Nib.att s (Nib.lin s q)), .int .i64 (Nib.fin s (Nib.att s (Nib.lin s q)))]) := by
  intro ww
  have := tLine_any s q q ww hs rfl hq'
  rw [Nib.fin_eq hq', Nib.beg_eq hq'] at this
  exact this
 go_enter Tryz.func287, Tryz.ntmps287
 go_wp2_with fail
 go_step3
 go_wp2_with fail
 refine (indexByte_any ⟨#[40, 41, 91, 93, 123, 125]⟩ cl _).mono ?_
 rintro e w9 ⟨rfl, h9⟩
 have h9 := h9.symm
 subst h9
 rw [hix]
 go_wp2_with fail
 refine (HL.out _).mono ?_
 rintro e w1 ⟨rfl, h1⟩
 obtain ⟨hc1, hf1, hz1⟩ := qb h1
 try simp at hz1
 go_wp2
 go_step3
 go_wp2
 go_loopg [2, 3, 14] (Nib.lin s q + 1) (fun g pl dp mo wr => (∃ j K m : Nat, j < Nib.lns s ∧ g = j + 1 ∧ pl = .int .i64 ((K : Int) - 1) ∧ dp = .int .i64 m ∧ Nib.att s j ≤ K ∧ K ≤ Nib.fin s (Nib.att s j) + 1 ∧ K ≤ s.size + 1 ∧ m + K ≤ 1002 ∧ (1 ≤ m ∨ (1 ≤ K ∧ Nib.bt s (K - 1) = cl)) ∧ Hid (Nib.mtD s cl op m K = X) ∧ mo = .bool true ∧ Two wr w1.heap.size (Nib.att s j) (Nib.fin s (Nib.att s j)) ∧ Below w.heap.size w wr) ∨ (Hid (X = -1) ∧ mo = .bool false ∧ Below w.heap.size w wr))
 case atStart =>
  have ha : Nib.att s (Nib.lin s q) ≤ q := by rw [← Nib.beg_eq hq']; exact Nib.beg_le s q
  have hf : q ≤ Nib.fin s (Nib.att s (Nib.lin s q)) := by rw [← Nib.fin_eq hq']; exact Nib.fin_ge s q
  refine Or.inl ⟨Nib.lin s q, q + 1, d, hm, rfl, by first | rfl | (congr 1; omega), rfl, by omega, by omega, by omega, by omega, ?_, HX, rfl, Two.new _ _ _ _, ?_⟩
  ·rcases hd0 with h | h
   ·exact Or.inl h
   ·exact Or.inr ⟨by omega, h⟩
  ·repeat exact qB
 case round =>
  rcases hrel with ⟨j, K, m, hj, hg, rfl, rfl, hka, hkf, hks, hmb, hor, hu, rfl, T, hB⟩ | ⟨HZ, rfl, hB⟩
  ·have t0 := (T).c0
   have t1 := (T).c1
   have tz := (T).fz
   have tl := (T).lt
   have hfl := Nib.fin_le (Nib.att_in hj).1
   have hfg := Nib.fin_ge s (Nib.att s j)
   by_cases hK : Nib.fin s (Nib.att s j) < K
   ·have eK : K = Nib.fin s (Nib.att s j) + 1 := by omega
    have h10 : Nib.bt s (Nib.fin s (Nib.att s j)) = 10 ∨ Nib.bt s (Nib.fin s (Nib.att s j)) = -1 := by
     by_cases hfs : Nib.fin s (Nib.att s j) < s.size
     ·left
      have h := Nib.fin_nl (s := s) (p := Nib.att s j) hfs
      unfold Nib.nl at h
      simpa using h
     ·right
      unfold Nib.bt
      rw [dif_neg qo]
    have hm1 : 1 ≤ m := by
     rcases hor with h | h
     ·exact h
     ·have h2 := h.2
      rw [eK, Nat.add_sub_cancel] at h2
      omega
    have hu2 : Hid (Nib.mtD s cl op m (Nib.fin s (Nib.att s j)) = X) := by
     rw [Hid, ← hu.out, eK]
     have e : Nib.dep s cl op m (Nib.fin s (Nib.att s j)) = (m : Int) := by unfold Nib.dep; rw [if_neg qo, if_neg qo]; omega
     simp only [Nib.mtD]
     rw [e, if_neg qo]
    have hu := hu2
    have hor : 1 ≤ m ∨ (1 ≤ Nib.fin s (Nib.att s j) ∧ Nib.bt s (Nib.fin s (Nib.att s j) - 1) = cl) := Or.inl hm1
    have hKI : ((Nib.fin s (Nib.att s j) : Nat) : Int) - 1 < (K : Int) - 1 := by omega
    clear hu2 h10
    have HEK : Hid (K = Nib.fin s (Nib.att s j) + 1) := eK
    clear eK
    have hmf : m + Nib.fin s (Nib.att s j) ≤ 1002 := by omega
    go_wp2
    go_loopg [2, 3] (Nib.fin s (Nib.att s j) - Nib.att s j) (fun g2 pl dp wx => ∃ k n : Nat, Nib.att s j ≤ k ∧ k ≤ Nib.fin s (Nib.att s j) ∧ g2 = k - Nib.att s j ∧ pl = .int .i64 ((k : Int) - 1) ∧ dp = .int .i64 n ∧ n + k ≤ 1002 ∧ (1 ≤ n ∨ (1 ≤ k ∧ Nib.bt s (k - 1) = cl)) ∧ Hid (Nib.mtD s cl op n k = X) ∧ wx = wr)
    case atStart => exact ⟨Nib.fin s (Nib.att s j), m, by omega, by omega, rfl, by first | rfl | (congr 1; omega), rfl, by omega, hor, hu, rfl⟩
    case round =>
     exact qt6
   ·have hKI : ¬ ((Nib.fin s (Nib.att s j) : Nat) : Int) - 1 < (K : Int) - 1 := by omega
    have hKI2 : (K : Int) - 1 ≤ ((Nib.fin s (Nib.att s j) : Nat) : Int) - 1 := by omega
    clear hKI
    go_wp2
    go_loopg [2, 3] (K - Nib.att s j) (fun g2 pl dp wx => ∃ k n : Nat, Nib.att s j ≤ k ∧ k ≤ Nib.fin s (Nib.att s j) ∧ g2 = k - Nib.att s j ∧ pl = .int .i64 ((k : Int) - 1) ∧ dp = .int .i64 n ∧ n + k ≤ 1002 ∧ (1 ≤ n ∨ (1 ≤ k ∧ Nib.bt s (k - 1) = cl)) ∧ Hid (Nib.mtD s cl op n k = X) ∧ wx = wr)
    case atStart => exact ⟨K, m, by omega, by omega, rfl, by first | rfl | (congr 1; omega), rfl, by omega, hor, hu, rfl⟩
    case round =>
     exact qt6
  ·go_wp2
   (try rw [Exit.noGoto_ret])
   all_goals
    first
     | (exact qV (.tuple #[.int .i64 0, .bool false]) (by simp [results, Tryz.results287, go_sem]) (by rw [HZ.out]; rfl))
theorem tSeekE_93 (s : ByteArray) (q d : Nat) (w : World) (hs : s.size ≤ 1000) (hq : q ≤ s.size) (hd : d ≤ 1) (hd0 : 1 ≤ d ∨ Nib.bt s q = 93) :
  qC 287 #[.string s, .int .u8 93, .int .i64 q, .int .i64 d] w (.tuple #[.int .i64 (mtI (Nib.mtD s 93 91 d (q + 1))), .bool (mtB (Nib.mtD s 93 91 d (q + 1)))]) :=
 tSeekE_gen 93 91 3 2 qd qd qd qd qd qd qd qd qd s q d w hs hq hd hd0
theorem tSeekE_125 (s : ByteArray) (q d : Nat) (w : World) (hs : s.size ≤ 1000) (hq : q ≤ s.size) (hd : d ≤ 1) (hd0 : 1 ≤ d ∨ Nib.bt s q = 125) :
  qC 287 #[.string s, .int .u8 125, .int .i64 q, .int .i64 d] w (.tuple #[.int .i64 (mtI (Nib.mtD s 125 123 d (q + 1))), .bool (mtB (Nib.mtD s 125 123 d (q + 1)))]) :=
 tSeekE_gen 125 123 5 4 qd qd qd qd qd qd qd qd qd s q d w hs hq hd hd0
theorem sWordStep_any (s : ByteArray) (r : Nat) (g : Bool) (w : World) (hs : s.size ≤ 1000) (hr : r ≤ s.size) :
  qC 249 #[.string s, .int .i64 r, .bool g] w (.int .i64 (Nib.wstep s g r)) := by
 have hw := Nib.wfrom_le (g := g) hr
 have HI : qH 282 #[.string s, .int .i64 (Nib.wfrom s r g : Nat), .bool true] (.int .i64 (Nib.wstep s g r)) := by
  intro ww
  refine sNextInk_any s (Nib.wfrom s r g) true (Nib.wgap s r) ww hs hw ?_ ?_ ?_
  ·intro i h; exact Nib.wgap1 s r i h
  ·intro i _ _ h h2
   refine Nib.wgap2 s r i g h ?_
   rcases h2 with h2 | h2 | h2
   ·exact absurd h2 qi
   ·exact Or.inl h2
   ·exact Or.inr h2
  ·intro _ i h h2; exact Nib.wgap3 s r i g h h2
 have HK : Hid (∀ ww, Calls Tryz.prog 247 #[.string s, .int .i64 r] ww fun e w' => e = .returned (.bool (decide (r < s.size) && !Nib.spc (Nib.bt s r))) ∧ w' = ww) := fun ww => sHasInk_any s r r ww hs rfl hr
 generalize Nib.wstep s g r = X at *
 by_cases hk : r < s.size ∧ Nib.spc (Nib.bt s r) = false
 ·have e1 : (decide (r < s.size) && !Nib.spc (Nib.bt s r)) = true := by rw [hk.2, decide_eq_true hk.1]; rfl
  have e2 : Nib.wfrom s r g = Nib.wrun s r g := by unfold Nib.wfrom; rw [if_pos hk]
  rw [e1] at HK
  rw [e2] at HI
  have hnl : Nib.bt s r ≠ 10 := by have := Nib.spc_nl_f hk.2; unfold Nib.nl at this; simpa using this
  have HR : qH 256 #[.string s, .int .i64 r, .bool g] (.agg #[.int .i64 (Nib.runB s r g), .int .i64 (Nib.wrun s r g)]) := fun ww => tRun_any s r r g ww hs rfl hk.1 hnl
  clear e1 e2 hk hnl hw
  have hx := ix1 (Nib.runB s r g) (Nib.wrun s r g)
  generalize Nib.runB s r g = A at *
  generalize Nib.wrun s r g = B at *
  go_enter Tryz.func249, Tryz.ntmps249
  go_wp2_with fail
  refine (HK.out _).mono ?_
  rintro e w' ⟨rfl, rfl⟩
  go_wp2_with fail
  refine (HR.out _).mono ?_
  rintro e w1 ⟨rfl, h1⟩
  obtain ⟨hc1, hf1, hz1⟩ := qb h1
  try simp at hz1
  go_wp2_with fail
  refine (HI.out _).mono ?_
  rintro e w2 ⟨rfl, h2⟩
  obtain ⟨hc2, hf2, hz2⟩ := qb h2
  try simp at hz2
  go_wp2
  all_goals
   first
    | (exact qV (.int .i64 X) (by simp [results, Tryz.results249, go_sem]) rfl)
 ·have e1 : (decide (r < s.size) && !Nib.spc (Nib.bt s r)) = false := by
   cases hs : Nib.spc (Nib.bt s r) with
   | true => simp
   | false => rw [hs] at hk; simp only [and_true] at hk; simp [hk]
  have e2 : Nib.wfrom s r g = r := by unfold Nib.wfrom; rw [if_neg hk]
  rw [e1] at HK
  rw [e2] at HI
  clear e1 e2 hk hw
  go_enter Tryz.func249, Tryz.ntmps249
  go_wp2_with fail
  refine (HK.out _).mono ?_
  rintro e w' ⟨rfl, rfl⟩
  go_wp2_with fail
  refine (HI.out _).mono ?_
  rintro e w2 ⟨rfl, h2⟩
  obtain ⟨hc2, hf2, hz2⟩ := qb h2
  try simp at hz2
  go_wp2
  all_goals
   first
    | (exact qV (.int .i64 X) (by simp [results, Tryz.results249, go_sem]) rfl)
theorem mBecome (r d : Nat) (p : Pg) (x : ByteArray) (w : World) (h : RdAt w r d p) (hx : x.size ≤ 1000) :
  Calls Tryz.prog 175 #[.pointer (some ⟨d, 0, none⟩), .string x] w fun e w' => e = .returned (.bool true) ∧ RdAt w' r d { p with t := x } ∧ Upd [d] w w' := by
 have H := h
 have HS := h.set_t x
 have c0 := h.dk.c0
 have fz := h.dk.fz
 have lt := h.dk.lt
 have hy : ((1000 : Int) < x.size) = False := by simp; omega
 generalize ({ p with t := x } : Pg) = p2 at *
 clear h hx
 go_enter Tryz.func175, Tryz.ntmps175
 go_wp2
 go_ret
 exact ⟨rfl, HS, Upd.setCell (Upd.refl _ _) (Or.inl qi) _⟩
theorem mBecome_long (r d : Nat) (x : ByteArray) (w : World) (hx : 1000 < x.size) :
  Calls Tryz.prog 175 #[.pointer (some ⟨d, 0, none⟩), .string x] w fun e w' => e = .returned (.bool false) ∧ w' = w := by
 have hy : ((1000 : Int) < x.size) = True := by simp; omega
 clear hx
 go_enter Tryz.func175, Tryz.ntmps175
 go_wp2
 go_ret
 exact ⟨rfl, rfl⟩
theorem hOf (t : ByteArray) (w : World) :
  qC 40 #[.string t] w (.agg #[.string t, .slice none 0 0, .slice none 0 0]) := by
 go_enter Tryz.func40, Tryz.ntmps40
 go_wp2
 exact qV (.agg #[.string t, .slice none 0 0, .slice none 0 0]) (by simp [results, Tryz.results40, go_sem]) rfl
def newPg (t : ByteArray) (m : Nat) : Pg := ⟨t, 0, 0, 0, .map (some m), t, .slice none 0 0, .slice none 0 0, 0, 0, 0, 0, 0, 0, 0⟩
theorem bNew (t : ByteArray) (w : World) :
  Calls Tryz.prog 33 #[.string t] w fun e w' => ∃ b r d m : Nat, e = .returned (.pointer (some ⟨b, 0, none⟩)) ∧ NbAt w' b r d (newPg t m) (.slice none 0 0) 0 ⟨#[]⟩ ∧ w'.heap[m]? = some (.map #[] 0) ∧
   w.heap.size ≤ m ∧ w.heap.size ≤ b ∧ w.heap.size ≤ r ∧ w.heap.size ≤ d ∧ m ≠ b ∧ m ≠ r ∧ m ≠ d ∧ Below w.heap.size w w' := by
 have HO : qH 40 #[.string t] (.agg #[.string t, .slice none 0 0, .slice none 0 0]) := fun ww => hOf t ww
 have hmm := @run_makeMap Tryz.prog
 go_enter Tryz.func33, Tryz.ntmps33
 go_wp2_with fail
 refine Calls.mono (HO.out _) ?_
 rintro e w1 ⟨rfl, h1⟩
 have hz1 := h1.size
 simp at hz1
 have hmp : w1.heap[w.heap.size]? = some (.map #[] 0) := by
  rw [h1.block w.heap.size qi]
  exact heap_alloc_new w _
 go_wp2_with fail
 go_ret
 refine ⟨w1.heap.size + 1 + 1, w1.heap.size + 1, w1.heap.size, w.heap.size, rfl, ⟨?_, ⟨?_, ?_, by omega⟩, ⟨_, World.ownsRow_nil _ _ _ _⟩, by omega, by omega, by simp [Value.ownBlock], by simp [Value.ownBlock], by simp [Value.ownBlock]⟩, ?_, by omega, by omega, by omega, by omega, by omega, by omega, by omega, ?_⟩
 ·constructor <;> first | (intro o; simp; done) | (simp [go_sem]; done) | (simp [go_sem]; rfl) | (simp; omega) | rfl
 ·constructor <;> first | (intro o; simp [newPg]; done) | (simp [go_sem, newPg]; done) | (simp [go_sem, newPg]; rfl) | (simp; omega) | rfl
 ·constructor <;> first | (intro o; simp [newPg]; done) | (simp [go_sem, newPg]; done) | (simp [go_sem, newPg]; rfl) | (simp; omega) | rfl
 ·rw [Below.heap_alloc _ _ _ qs, Below.heap_alloc _ _ _ qs, Below.heap_alloc _ _ _ qo]
  exact hmp
 ·repeat exact qB
end Go.Proofs.YtlendfhehhacpaaGreat
