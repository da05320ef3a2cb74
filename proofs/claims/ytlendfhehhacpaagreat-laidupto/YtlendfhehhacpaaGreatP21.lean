/- A part. -/
import Derived.Test.YtlendfhehhacpaaGreatP15
set_option linter.unusedVariables false
set_option linter.unusedSimpArgs false
set_option maxRecDepth 100000
set_option maxHeartbeats 8000000
namespace Go.Proofs.YtlendfhehhacpaaGreat
open Go.RowKit
theorem tSeek_91 (s : ByteArray) (q d : Nat) (w : World) (hs : s.size ≤ 1000) (hq : q < s.size) (hd : d ≤ 1) (hd0 : 1 ≤ d ∨ Nib.bt s q = 91) :
  qC 287 #[.string s, .int .u8 91, .int .i64 q, .int .i64 d] w (.tuple #[.int .i64 (mtI (Nib.mtU s 91 93 (s.size - q) d q)), .bool (mtB (Nib.mtU s 91 93 (s.size - q) d q))]) :=
 tSeek_gen 91 93 2 3 qd qd qd qd qd qd qd qd qd s q d w hs hq hd hd0
theorem tSeek_123 (s : ByteArray) (q d : Nat) (w : World) (hs : s.size ≤ 1000) (hq : q < s.size) (hd : d ≤ 1) (hd0 : 1 ≤ d ∨ Nib.bt s q = 123) :
  qC 287 #[.string s, .int .u8 123, .int .i64 q, .int .i64 d] w (.tuple #[.int .i64 (mtI (Nib.mtU s 123 125 (s.size - q) d q)), .bool (mtB (Nib.mtU s 123 125 (s.size - q) d q))]) :=
 tSeek_gen 123 125 4 5 qd qd qd qd qd qd qd qd qd s q d w hs hq hd hd0
theorem qt6 {P : Prop} (h : P := by
  clear hu hor hmb
  obtain ⟨k, n, hk1, hk2, hk3, rfl, rfl, hn, hor, hu, rfl⟩ := hrel
  by_cases hlt : Nib.att s j < k
  ·obtain ⟨i, rfl⟩ : ∃ i, k = i + 1 := ⟨k - 1, by omega⟩
   have e1 : ((i + 1 : Nat) : Int) - 1 = (i : Int) := by omega
   rw [e1]
   have his : i < s.size := by omega
   have hle' : ((Nib.att s j : Nat) : Int) ≤ (i : Int) := by omega
   have hlt' : (i : Int) < ((Nib.fin s (Nib.att s j) : Nat) : Int) := by omega
   rw [Nat.add_sub_cancel] at hor
   by_cases hO : Nib.bt s i = cl
   ·have hcc : (((s[i]'his).toNat : Int) == cl) = true := by rw [← Nib.bt_in his]; simp [hO]
    have HS : Hid (Nib.mtD s cl op ((n + 1 : Nat) : Int) i = X) := by
     rw [Hid, ← hu.out]
     have e : Nib.dep s cl op n i = ((n + 1 : Nat) : Int) := by unfold Nib.dep; rw [if_pos hO, if_neg qo]; omega
     simp only [Nib.mtD]
     rw [e, if_neg qo]
    clear hu hor hO e1
    go_wp2
    go_roundg (i - Nib.att s j)
    case measure => omega
    case rel => exact ⟨i, n + 1, by omega, by omega, rfl, by first | rfl | (congr 1; omega), by go_num, by omega, Or.inl qo, HS, rfl⟩
   ·have hcc : (((s[i]'his).toNat : Int) == cl) = false := by rw [← Nib.bt_in his]; simp [hO]
    have hn1 : 1 ≤ n := by
     rcases hor with h | h
     ·exact h
     ·exact absurd h.2 hO
    by_cases hC : Nib.bt s i = op
    ·have hcd : (((s[i]'his).toNat : Int) == op) = true := by rw [← Nib.bt_in his]; simp [hC]
     have e : Nib.dep s cl op n i = (n : Int) - 1 := by unfold Nib.dep; rw [if_neg hO, if_pos hC]; omega
     by_cases hn2 : n = 1
     ·have HS : Hid (X = (i : Int)) := by
       rw [Hid, ← hu.out]
       simp only [Nib.mtD]
       rw [e, if_pos qo]
      subst hn2
      clear hu hor hO hC e e1
      go_wp2
      (try rw [Exit.noGoto_ret])
      all_goals
       first
        | (exact qV (.tuple #[.int .i64 i, .bool true]) (by simp [results, Tryz.results287, go_sem]) (by rw [HS.out]; unfold mtI mtB; rw [if_neg qo, decide_eq_true qo]))
     ·have HS : Hid (Nib.mtD s cl op ((n - 1 : Nat) : Int) i = X) := by
       rw [Hid, ← hu.out]
       simp only [Nib.mtD]
       rw [e, if_neg qo, show ((n - 1 : Nat) : Int) = (n : Int) - 1 by omega]
      have hm0 : (((n : Int) - 1) == 0) = false := by simp; omega
      clear hu hor hO hC e e1
      go_wp2
      go_roundg (i - Nib.att s j)
      case measure => omega
      case rel => exact ⟨i, n - 1, by omega, by omega, rfl, by first | rfl | (congr 1; omega), by first | rfl | (congr 1; omega), by omega, Or.inl qo, HS, rfl⟩
    ·have hcd : (((s[i]'his).toNat : Int) == op) = false := by rw [← Nib.bt_in his]; simp [hC]
     have HS : Hid (Nib.mtD s cl op (n : Int) i = X) := by
      rw [Hid, ← hu.out]
      have e : Nib.dep s cl op n i = (n : Int) := by unfold Nib.dep; rw [if_neg hO, if_neg hC]; omega
      simp only [Nib.mtD]
      rw [e, if_neg qo]
     clear hu hor hO hC e1
     go_wp2
     go_roundg (i - Nib.att s j)
     case measure => omega
     case rel => exact ⟨i, n, by omega, by omega, rfl, by first | rfl | (congr 1; omega), rfl, by omega, Or.inl hn1, HS, rfl⟩
  ·have ek : k = Nib.att s j := by omega
   subst ek
   have hge : ¬ ((Nib.att s j : Nat) : Int) ≤ ((Nib.att s j : Nat) : Int) - 1 := by omega
   by_cases h0 : 0 < j
   ·have HQ : Hid (Nib.fin s (Nib.att s (j - 1)) + 1 = Nib.att s j) := by
     obtain ⟨i, rfl⟩ : ∃ i, j = i + 1 := ⟨j - 1, by omega⟩
     rfl
    have HBs : qH 223 #[.string s, .agg #[.int .i64 (Nib.att s j), .int .i64 (Nib.fin s (Nib.att s j))], .int .i64 (-1)] (.tuple #[.agg #[.int .i64 (Nib.att s (j - 1)), .int .i64 (Nib.fin s (Nib.att s (j - 1)))], .bool true]) := fun ww => tBeside_up s _ _ _ j ww hs rfl hj rfl h0
    have Hor : Hid (1 ≤ n ∨ (1 ≤ Nib.att s j ∧ Nib.bt s (Nib.att s j - 1) = cl)) := hor
    clear hor
    go_wp2_with fail
    refine (HBs.out _).mono ?_
    rintro r3 w3 ⟨rfl, h3⟩
    obtain ⟨hc3, hf3, hz3⟩ := qb h3
    (try simp at hz3)
    have T3 : Two w3 (w1.heap.size) (Nib.att s j) (Nib.fin s (Nib.att s j)) := qTw
    have ⟨T3_0, T3_1, T3_z, T3_l⟩ := T3
    clear hc3 hf3
    go_wp2
    have hq9 := HQ.out
    go_roundg j
    case measure => omega
    case rel =>
     refine Or.inl ⟨j - 1, Nib.att s j, n, by omega, by omega, rfl, rfl, ?_, by omega, by omega, hn, Hor.out, hu, rfl, Two.set1 (Two.set0 T3 _) _, ?_⟩
     ·have := Nib.fin_ge s (Nib.att s (j - 1)); omega
     ·repeat exact qB
   ·have e0 : j = 0 := by omega
    have ea : Nib.att s j = 0 := by rw [e0]; rfl
    have HZ : Hid (X = -1) := by rw [Hid, ← hu.out, ea]; rfl
    have HBs : qH 223 #[.string s, .agg #[.int .i64 (Nib.att s j), .int .i64 (Nib.fin s (Nib.att s j))], .int .i64 (-1)] (.tuple #[.agg #[.int .i64 (0), .int .i64 (0)], .bool false]) := fun ww => tBeside_none s _ _ _ ww hs (Or.inr rfl) (fun h => by omega) (fun _ => by omega)
    clear ea e0 hor hu
    go_wp2_with fail
    refine (HBs.out _).mono ?_
    rintro r3 w3 ⟨rfl, h3⟩
    obtain ⟨hc3, hf3, hz3⟩ := qb h3
    (try simp at hz3)
    have T3 : Two w3 (w1.heap.size) (Nib.att s j) (Nib.fin s (Nib.att s j)) := qTw
    have ⟨T3_0, T3_1, T3_z, T3_l⟩ := T3
    clear hc3 hf3
    go_wp2
    go_roundg 0
    case measure => omega
    case rel =>
     refine Or.inr ⟨HZ, rfl, ?_⟩
     repeat exact qB
 ) : P := h
theorem tSeekE_gen (cl op : Int) (I J : Nat) (hix : firstIdx ⟨#[40, 41, 91, 93, 123, 125]⟩ cl.toNat.toUInt8 = I) (hbx : bits BinOp.xor IntKind.i64 I 1 = J) (hJ : J < 6) (hel : (((⟨#[40, 41, 91, 93, 123, 125]⟩ : ByteArray)[J]'hJ).toNat : Int) = op) (hpar : (((I : Int) % 2) == 1) = true) (hne : (op == cl) = false) (hn10 : 32 ≤ cl) (hn11 : 32 ≤ op) (hn12 : ¬ op = cl) (s : ByteArray) (q d : Nat) (w : World) (hs : s.size ≤ 1000) (hq : q ≤ s.size) (hd : d ≤ 1) (hd0 : 1 ≤ d ∨ Nib.bt s q = cl) :
  qC 287 #[.string s, .int .u8 cl, .int .i64 q, .int .i64 d] w (.tuple #[.int .i64 (mtI (Nib.mtD s cl op d (q + 1))), .bool (mtB (Nib.mtD s cl op d (q + 1)))]) := by
 generalize hX : Nib.mtD s cl op d (q + 1) = X
 have HX : Hid (Nib.mtD s cl op d (q + 1) = X) := hX
 clear hX
 have hq' : q ≤ s.size := by omega
 have hm := Nib.lin_lt hq'
 have HL : qH 195 #[.string s, .int .i64 q] (.agg #[.int .i64 (Nib.att s (Nib.lin s q)), .int .i64 (Nib.fin s (Nib.att s (Nib.lin s q)))]) := by
  intro ww
  have := tLine_any s q q ww hs rfl hq'
  rw [Nib.fin_eq hq', Nib.beg_eq hq'] at this
  exact this
 go_enter Tryz.func287, Tryz.ntmps287
 go_wp2_with fail
 go_step3
 go_wp2_with fail
 refine (indexByte_any ⟨#[40, 41, 91, 93, 123, 125]⟩ cl _).mono ?_
 rintro e w9 ⟨rfl, h9⟩
 have h9 := h9.symm
 subst h9
 rw [hix]
 go_wp2_with fail
 refine (HL.out _).mono ?_
 rintro e w1 ⟨rfl, h1⟩
 obtain ⟨hc1, hf1, hz1⟩ := qb h1
 try simp at hz1
 go_wp2
 go_step3
 go_wp2
 go_loopg [2, 3, 14] (Nib.lin s q + 1) (fun g pl dp mo wr => (∃ j K m : Nat, j < Nib.lns s ∧ g = j + 1 ∧ pl = .int .i64 ((K : Int) - 1) ∧ dp = .int .i64 m ∧ Nib.att s j ≤ K ∧ K ≤ Nib.fin s (Nib.att s j) + 1 ∧ K ≤ s.size + 1 ∧ m + K ≤ 1002 ∧ (1 ≤ m ∨ (1 ≤ K ∧ Nib.bt s (K - 1) = cl)) ∧ Hid (Nib.mtD s cl op m K = X) ∧ mo = .bool true ∧ Two wr w1.heap.size (Nib.att s j) (Nib.fin s (Nib.att s j)) ∧ Below w.heap.size w wr) ∨ (Hid (X = -1) ∧ mo = .bool false ∧ Below w.heap.size w wr))
 case atStart =>
  have ha : Nib.att s (Nib.lin s q) ≤ q := by rw [← Nib.beg_eq hq']; exact Nib.beg_le s q
  have hf : q ≤ Nib.fin s (Nib.att s (Nib.lin s q)) := by rw [← Nib.fin_eq hq']; exact Nib.fin_ge s q
  refine Or.inl ⟨Nib.lin s q, q + 1, d, hm, rfl, by first | rfl | (congr 1; omega), rfl, by omega, by omega, by omega, by omega, ?_, HX, rfl, Two.new _ _ _ _, ?_⟩
  ·rcases hd0 with h | h
   ·exact Or.inl h
   ·exact Or.inr ⟨by omega, h⟩
  ·repeat exact qB
 case round =>
  rcases hrel with ⟨j, K, m, hj, hg, rfl, rfl, hka, hkf, hks, hmb, hor, hu, rfl, T, hB⟩ | ⟨HZ, rfl, hB⟩
  ·have t0 := (T).c0
   have t1 := (T).c1
   have tz := (T).fz
   have tl := (T).lt
   have hfl := Nib.fin_le (Nib.att_in hj).1
   have hfg := Nib.fin_ge s (Nib.att s j)
   by_cases hK : Nib.fin s (Nib.att s j) < K
   ·have eK : K = Nib.fin s (Nib.att s j) + 1 := by omega
    have h10 : Nib.bt s (Nib.fin s (Nib.att s j)) = 10 ∨ Nib.bt s (Nib.fin s (Nib.att s j)) = -1 := by
     by_cases hfs : Nib.fin s (Nib.att s j) < s.size
     ·left
      have h := Nib.fin_nl (s := s) (p := Nib.att s j) hfs
      unfold Nib.nl at h
      simpa using h
     ·right
      unfold Nib.bt
      rw [dif_neg qo]
    have hm1 : 1 ≤ m := by
     rcases hor with h | h
     ·exact h
     ·have h2 := h.2
      rw [eK, Nat.add_sub_cancel] at h2
      omega
    have hu2 : Hid (Nib.mtD s cl op m (Nib.fin s (Nib.att s j)) = X) := by
     rw [Hid, ← hu.out, eK]
     have e : Nib.dep s cl op m (Nib.fin s (Nib.att s j)) = (m : Int) := by unfold Nib.dep; rw [if_neg qo, if_neg qo]; omega
     simp only [Nib.mtD]
     rw [e, if_neg qo]
    have hu := hu2
    have hor : 1 ≤ m ∨ (1 ≤ Nib.fin s (Nib.att s j) ∧ Nib.bt s (Nib.fin s (Nib.att s j) - 1) = cl) := Or.inl hm1
    have hKI : ((Nib.fin s (Nib.att s j) : Nat) : Int) - 1 < (K : Int) - 1 := by omega
    clear hu2 h10
    have HEK : Hid (K = Nib.fin s (Nib.att s j) + 1) := eK
    clear eK
    have hmf : m + Nib.fin s (Nib.att s j) ≤ 1002 := by omega
    go_wp2
    go_loopg [2, 3] (Nib.fin s (Nib.att s j) - Nib.att s j) (fun g2 pl dp wx => ∃ k n : Nat, Nib.att s j ≤ k ∧ k ≤ Nib.fin s (Nib.att s j) ∧ g2 = k - Nib.att s j ∧ pl = .int .i64 ((k : Int) - 1) ∧ dp = .int .i64 n ∧ n + k ≤ 1002 ∧ (1 ≤ n ∨ (1 ≤ k ∧ Nib.bt s (k - 1) = cl)) ∧ Hid (Nib.mtD s cl op n k = X) ∧ wx = wr)
    case atStart => exact ⟨Nib.fin s (Nib.att s j), m, by omega, by omega, rfl, by first | rfl | (congr 1; omega), rfl, by omega, hor, hu, rfl⟩
    case round =>
     exact qt6
   ·have hKI : ¬ ((Nib.fin s (Nib.att s j) : Nat) : Int) - 1 < (K : Int) - 1 := by omega
    have hKI2 : (K : Int) - 1 ≤ ((Nib.fin s (Nib.att s j) : Nat) : Int) - 1 := by omega
    clear hKI
    go_wp2
    go_loopg [2, 3] (K - Nib.att s j) (fun g2 pl dp wx => ∃ k n : Nat, Nib.att s j ≤ k ∧ k ≤ Nib.fin s (Nib.att s j) ∧ g2 = k - Nib.att s j ∧ pl = .int .i64 ((k : Int) - 1) ∧ dp = .int .i64 n ∧ n + k ≤ 1002 ∧ (1 ≤ n ∨ (1 ≤ k ∧ Nib.bt s (k - 1) = cl)) ∧ Hid (Nib.mtD s cl op n k = X) ∧ wx = wr)
    case atStart => exact ⟨K, m, by omega, by omega, rfl, by first | rfl | (congr 1; omega), rfl, by omega, hor, hu, rfl⟩
    case round =>
     exact qt6
  ·go_wp2
   (try rw [Exit.noGoto_ret])
   all_goals
    first
     | (exact qV (.tuple #[.int .i64 0, .bool false]) (by simp [results, Tryz.results287, go_sem]) (by rw [HZ.out]; rfl))
theorem tSeekE_41 (s : ByteArray) (q d : Nat) (w : World) (hs : s.size ≤ 1000) (hq : q ≤ s.size) (hd : d ≤ 1) (hd0 : 1 ≤ d ∨ Nib.bt s q = 41) :
  qC 287 #[.string s, .int .u8 41, .int .i64 q, .int .i64 d] w (.tuple #[.int .i64 (mtI (Nib.mtD s 41 40 d (q + 1))), .bool (mtB (Nib.mtD s 41 40 d (q + 1)))]) :=
 tSeekE_gen 41 40 1 0 qd qd qd qd qd qd qd qd qd s q d w hs hq hd hd0
theorem tSeek_41 (s : ByteArray) (q d : Nat) (w : World) (hs : s.size ≤ 1000) (hq : q < s.size) (hd : d ≤ 1) (hd0 : 1 ≤ d ∨ Nib.bt s q = 41) :
  qC 287 #[.string s, .int .u8 41, .int .i64 q, .int .i64 d] w (.tuple #[.int .i64 (mtI (Nib.mtD s 41 40 d (q + 1))), .bool (mtB (Nib.mtD s 41 40 d (q + 1)))]) :=
 tSeekE_41 s q d w hs (Nat.le_of_lt hq) hd hd0
theorem tSeekE_93 (s : ByteArray) (q d : Nat) (w : World) (hs : s.size ≤ 1000) (hq : q ≤ s.size) (hd : d ≤ 1) (hd0 : 1 ≤ d ∨ Nib.bt s q = 93) :
  qC 287 #[.string s, .int .u8 93, .int .i64 q, .int .i64 d] w (.tuple #[.int .i64 (mtI (Nib.mtD s 93 91 d (q + 1))), .bool (mtB (Nib.mtD s 93 91 d (q + 1)))]) :=
 tSeekE_gen 93 91 3 2 qd qd qd qd qd qd qd qd qd s q d w hs hq hd hd0
theorem tSeek_93 (s : ByteArray) (q d : Nat) (w : World) (hs : s.size ≤ 1000) (hq : q < s.size) (hd : d ≤ 1) (hd0 : 1 ≤ d ∨ Nib.bt s q = 93) :
  qC 287 #[.string s, .int .u8 93, .int .i64 q, .int .i64 d] w (.tuple #[.int .i64 (mtI (Nib.mtD s 93 91 d (q + 1))), .bool (mtB (Nib.mtD s 93 91 d (q + 1)))]) :=
 tSeekE_93 s q d w hs (Nat.le_of_lt hq) hd hd0
theorem tSeekE_125 (s : ByteArray) (q d : Nat) (w : World) (hs : s.size ≤ 1000) (hq : q ≤ s.size) (hd : d ≤ 1) (hd0 : 1 ≤ d ∨ Nib.bt s q = 125) :
  qC 287 #[.string s, .int .u8 125, .int .i64 q, .int .i64 d] w (.tuple #[.int .i64 (mtI (Nib.mtD s 125 123 d (q + 1))), .bool (mtB (Nib.mtD s 125 123 d (q + 1)))]) :=
 tSeekE_gen 125 123 5 4 qd qd qd qd qd qd qd qd qd s q d w hs hq hd hd0
theorem tSeek_125 (s : ByteArray) (q d : Nat) (w : World) (hs : s.size ≤ 1000) (hq : q < s.size) (hd : d ≤ 1) (hd0 : 1 ≤ d ∨ Nib.bt s q = 125) :
  qC 287 #[.string s, .int .u8 125, .int .i64 q, .int .i64 d] w (.tuple #[.int .i64 (mtI (Nib.mtD s 125 123 d (q + 1))), .bool (mtB (Nib.mtD s 125 123 d (q + 1)))]) :=
 tSeekE_125 s q d w hs (Nat.le_of_lt hq) hd hd0
theorem tPartner_any (s : ByteArray) (p : Nat) (w : World) (hs : s.size ≤ 1000) (hp : p < s.size) (hb : Nib.prt (Nib.bt s p) ≠ 0) :
  qC 255 #[.string s, .int .i64 p] w (.tuple #[.int .i64 (mtI (Nib.mtch s p)), .bool (mtB (Nib.mtch s p))]) := by
 have HS : qH 287 #[.string s, .int .u8 (((s[p]'hp).toNat : Nat) : Int), .int .i64 p, .int .i64 0] (.tuple #[.int .i64 (mtI (Nib.mtch s p)), .bool (mtB (Nib.mtch s p))]) := by
  intro ww
  rw [← Nib.bt_in hp]
  have hcase : Nib.bt s p = 40 ∨ Nib.bt s p = 91 ∨ Nib.bt s p = 123 ∨ Nib.bt s p = 41 ∨ Nib.bt s p = 93 ∨ Nib.bt s p = 125 := by
   unfold Nib.prt at hb
   by_cases h1 : Nib.bt s p = 40
   ·exact Or.inl h1
   by_cases h2 : Nib.bt s p = 91
   ·exact Or.inr (Or.inl h2)
   by_cases h3 : Nib.bt s p = 123
   ·exact Or.inr (Or.inr (Or.inl h3))
   by_cases h4 : Nib.bt s p = 41
   ·exact Or.inr (Or.inr (Or.inr (Or.inl h4)))
   by_cases h5 : Nib.bt s p = 93
   ·exact Or.inr (Or.inr (Or.inr (Or.inr (Or.inl h5))))
   by_cases h6 : Nib.bt s p = 125
   ·exact Or.inr (Or.inr (Or.inr (Or.inr (Or.inr h6))))
   ·rw [if_neg h1, if_neg h2, if_neg h3, if_neg h4, if_neg h5, if_neg h6] at hb
    exact absurd rfl hb
  rcases hcase with h | h | h | h | h | h
  ·have e : Nib.mtch s p = Nib.mtU s 40 41 (s.size - p) ((0 : Nat) : Int) p := by unfold Nib.mtch; rw [h]; rfl
   rw [e, h]; exact tSeek_40 s p 0 ww hs hp qo (Or.inr h)
  ·have e : Nib.mtch s p = Nib.mtU s 91 93 (s.size - p) ((0 : Nat) : Int) p := by unfold Nib.mtch; rw [h]; rfl
   rw [e, h]; exact tSeek_91 s p 0 ww hs hp qo (Or.inr h)
  ·have e : Nib.mtch s p = Nib.mtU s 123 125 (s.size - p) ((0 : Nat) : Int) p := by unfold Nib.mtch; rw [h]; rfl
   rw [e, h]; exact tSeek_123 s p 0 ww hs hp qo (Or.inr h)
  ·have e : Nib.mtch s p = Nib.mtD s 41 40 ((0 : Nat) : Int) (p + 1) := by unfold Nib.mtch; rw [h]; rfl
   rw [e, h]; exact tSeek_41 s p 0 ww hs hp qo (Or.inr h)
  ·have e : Nib.mtch s p = Nib.mtD s 93 91 ((0 : Nat) : Int) (p + 1) := by unfold Nib.mtch; rw [h]; rfl
   rw [e, h]; exact tSeek_93 s p 0 ww hs hp qo (Or.inr h)
  ·have e : Nib.mtch s p = Nib.mtD s 125 123 ((0 : Nat) : Int) (p + 1) := by unfold Nib.mtch; rw [h]; rfl
   rw [e, h]; exact tSeek_125 s p 0 ww hs hp qo (Or.inr h)
 generalize Nib.mtch s p = M at *
 generalize mtI M = X at *
 generalize mtB M = Z at *
 clear hb
 go_enter Tryz.func255, Tryz.ntmps255
 go_wp2_with fail
 refine (HS.out _).mono ?_
 rintro e w1 ⟨rfl, h1⟩
 obtain ⟨hc1, hf1, hz1⟩ := qb h1
 try simp at hz1
 go_wp2
 all_goals
  first
   | (exact qV (.tuple #[.int .i64 X, .bool Z]) (by simp [results, Tryz.results255, go_sem]) rfl)
theorem sWordStep_any (s : ByteArray) (r : Nat) (g : Bool) (w : World) (hs : s.size ≤ 1000) (hr : r ≤ s.size) :
  qC 249 #[.string s, .int .i64 r, .bool g] w (.int .i64 (Nib.wstep s g r)) := by
 have hw := Nib.wfrom_le (g := g) hr
 have HI : qH 282 #[.string s, .int .i64 (Nib.wfrom s r g : Nat), .bool true] (.int .i64 (Nib.wstep s g r)) := by
  intro ww
  refine sNextInk_any s (Nib.wfrom s r g) true (Nib.wgap s r) ww hs hw ?_ ?_ ?_
  ·intro i h; exact Nib.wgap1 s r i h
  ·intro i _ _ h h2
   refine Nib.wgap2 s r i g h ?_
   rcases h2 with h2 | h2 | h2
   ·exact absurd h2 qi
   ·exact Or.inl h2
   ·exact Or.inr h2
  ·intro _ i h h2; exact Nib.wgap3 s r i g h h2
 have HK : Hid (∀ ww, Calls Tryz.prog 247 #[.string s, .int .i64 r] ww fun e w' => e = .returned (.bool (decide (r < s.size) && !Nib.spc (Nib.bt s r))) ∧ w' = ww) := fun ww => sHasInk_any s r r ww hs rfl hr
 generalize Nib.wstep s g r = X at *
 by_cases hk : r < s.size ∧ Nib.spc (Nib.bt s r) = false
 ·have e1 : (decide (r < s.size) && !Nib.spc (Nib.bt s r)) = true := by rw [hk.2, decide_eq_true hk.1]; rfl
  have e2 : Nib.wfrom s r g = Nib.wrun s r g := by unfold Nib.wfrom; rw [if_pos hk]
  rw [e1] at HK
  rw [e2] at HI
  have hnl : Nib.bt s r ≠ 10 := by have := Nib.spc_nl_f hk.2; unfold Nib.nl at this; simpa using this
  have HR : qH 256 #[.string s, .int .i64 r, .bool g] (.agg #[.int .i64 (Nib.runB s r g), .int .i64 (Nib.wrun s r g)]) := fun ww => tRun_any s r r g ww hs rfl hk.1 hnl
  clear e1 e2 hk hnl hw
  have hx := ix1 (Nib.runB s r g) (Nib.wrun s r g)
  generalize Nib.runB s r g = A at *
  generalize Nib.wrun s r g = B at *
  go_enter Tryz.func249, Tryz.ntmps249
  go_wp2_with fail
  refine (HK.out _).mono ?_
  rintro e w' ⟨rfl, rfl⟩
  go_wp2_with fail
  refine (HR.out _).mono ?_
  rintro e w1 ⟨rfl, h1⟩
  obtain ⟨hc1, hf1, hz1⟩ := qb h1
  try simp at hz1
  go_wp2_with fail
  refine (HI.out _).mono ?_
  rintro e w2 ⟨rfl, h2⟩
  obtain ⟨hc2, hf2, hz2⟩ := qb h2
  try simp at hz2
  go_wp2
  all_goals
   first
    | (exact qV (.int .i64 X) (by simp [results, Tryz.results249, go_sem]) rfl)
 ·have e1 : (decide (r < s.size) && !Nib.spc (Nib.bt s r)) = false := by
   cases hs : Nib.spc (Nib.bt s r) with
   | true => simp
   | false => rw [hs] at hk; simp only [and_true] at hk; simp [hk]
  have e2 : Nib.wfrom s r g = r := by unfold Nib.wfrom; rw [if_neg hk]
  rw [e1] at HK
  rw [e2] at HI
  clear e1 e2 hk hw
  go_enter Tryz.func249, Tryz.ntmps249
  go_wp2_with fail
  refine (HK.out _).mono ?_
  rintro e w' ⟨rfl, rfl⟩
  go_wp2_with fail
  refine (HI.out _).mono ?_
  rintro e w2 ⟨rfl, h2⟩
  obtain ⟨hc2, hf2, hz2⟩ := qb h2
  try simp at hz2
  go_wp2
  all_goals
   first
    | (exact qV (.int .i64 X) (by simp [results, Tryz.results249, go_sem]) rfl)
end Go.Proofs.YtlendfhehhacpaaGreat
