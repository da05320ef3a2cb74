/- A part. -/
import Derived.Test.YtlendfhehhacpaaGreatU28
set_option linter.unusedVariables false
set_option linter.unusedSimpArgs false
set_option maxRecDepth 100000
set_option maxHeartbeats 8000000
namespace Go.Proofs.YtlendfhehhacpaaGreat
open Go.RowKit Nib Tryz
theorem tSeek_91 (s : ByteArray) (q d : Nat) (w : World) (hs : s.size ≤ 1000) (hq : q < s.size) (hd : d ≤ 1) (hd0 : 1 ≤ d ∨ bt s q = 91) :
  qC 287 #[.string s, .int .u8 91, .int .i64 q, .int .i64 d] w (.tuple #[.int .i64 (mtI (mtU s 91 93 (s.size - q) d q)), .bool (mtB (mtU s 91 93 (s.size - q) d q))]) :=
 tSeek_gen 91 93 2 3 qd qd qd qd qd qd qd qd qd s q d w hs hq hd hd0
theorem tSeek_123 (s : ByteArray) (q d : Nat) (w : World) (hs : s.size ≤ 1000) (hq : q < s.size) (hd : d ≤ 1) (hd0 : 1 ≤ d ∨ bt s q = 123) :
  qC 287 #[.string s, .int .u8 123, .int .i64 q, .int .i64 d] w (.tuple #[.int .i64 (mtI (mtU s 123 125 (s.size - q) d q)), .bool (mtB (mtU s 123 125 (s.size - q) d q))]) :=
 tSeek_gen 123 125 4 5 qd qd qd qd qd qd qd qd qd s q d w hs hq hd hd0
theorem qt6 {P : Prop} (h : P := by
  clear hu hor hmb
  obtain ⟨k, n, hk1, hk2, hk3, rfl, rfl, hn, hor, hu, rfl⟩ := hrel
  by_cases hlt : att s j < k
  ·obtain ⟨i, rfl⟩ : ∃ i, k = i + 1 := ⟨k - 1, by omega⟩
   have e1 : ((i + 1 : Nat) : Int) - 1 = (i : Int) := by omega
   rw [e1]
   have his : i < s.size := by omega
   have hle' : ((att s j : Nat) : Int) ≤ (i : Int) := by omega
   have hlt' : (i : Int) < ((fin s (att s j) : Nat) : Int) := by omega
   rw [Nat.add_sub_cancel] at hor
   by_cases hO : bt s i = cl
   ·have hcc : (((s[i]'his).toNat : Int) == cl) = true := by rw [← bt_in his]; simp [hO]
    have HS : Hid (mtD s cl op ((n + 1 : Nat) : Int) i = X) := by
     rw [Hid, ← hu.out]
     have e : dep s cl op n i = ((n + 1 : Nat) : Int) := by unfold dep; rw [if_pos hO, if_neg qo]; omega
     simp only [mtD]
     rw [e, if_neg qo]
    clear hu hor hO e1
    go_wp2
    go_roundg (i - att s j)
    case measure => omega
    case rel => exact ⟨i, n + 1, by omega, by omega, rfl, by first | rfl | (congr 1; omega), by go_num, by omega, Or.inl qo, HS, rfl⟩
   ·have hcc : (((s[i]'his).toNat : Int) == cl) = false := by rw [← bt_in his]; simp [hO]
    have hn1 : 1 ≤ n := by
     rcases hor with h | h
     ·exact h
     ·exact absurd h.2 hO
    by_cases hC : bt s i = op
    ·have hcd : (((s[i]'his).toNat : Int) == op) = true := by rw [← bt_in his]; simp [hC]
     have e : dep s cl op n i = (n : Int) - 1 := by unfold dep; rw [if_neg hO, if_pos hC]; omega
     by_cases hn2 : n = 1
     ·have HS : Hid (X = (i : Int)) := by
       rw [Hid, ← hu.out]
       simp only [mtD]
       rw [e, if_pos qo]
      subst hn2
      clear hu hor hO hC e e1
      go_wp2
      (try rw [Exit.noGoto_ret])
      all_goals
       first
        | (exact qV (.tuple #[.int .i64 i, .bool true]) (by simp [results, results287, go_sem]) (by rw [HS.out]; unfold mtI mtB; rw [if_neg qo, decide_eq_true qo]))
     ·have HS : Hid (mtD s cl op ((n - 1 : Nat) : Int) i = X) := by
       rw [Hid, ← hu.out]
       simp only [mtD]
       rw [e, if_neg qo, show ((n - 1 : Nat) : Int) = (n : Int) - 1 by omega]
      have hm0 : (((n : Int) - 1) == 0) = false := by simp; omega
      clear hu hor hO hC e e1
      go_wp2
      go_roundg (i - att s j)
      case measure => omega
      case rel => exact ⟨i, n - 1, by omega, by omega, rfl, by first | rfl | (congr 1; omega), by first | rfl | (congr 1; omega), by omega, Or.inl qo, HS, rfl⟩
    ·have hcd : (((s[i]'his).toNat : Int) == op) = false := by rw [← bt_in his]; simp [hC]
     have HS : Hid (mtD s cl op (n : Int) i = X) := by
      rw [Hid, ← hu.out]
      have e : dep s cl op n i = (n : Int) := by unfold dep; rw [if_neg hO, if_neg hC]; omega
      simp only [mtD]
      rw [e, if_neg qo]
     clear hu hor hO hC e1
     go_wp2
     go_roundg (i - att s j)
     case measure => omega
     case rel => exact ⟨i, n, by omega, by omega, rfl, by first | rfl | (congr 1; omega), rfl, by omega, Or.inl hn1, HS, rfl⟩
  ·have ek : k = att s j := by omega
   subst ek
   have hge : ¬ ((att s j : Nat) : Int) ≤ ((att s j : Nat) : Int) - 1 := by omega
   by_cases h0 : 0 < j
   ·have HQ : Hid (fin s (att s (j - 1)) + 1 = att s j) := by
     obtain ⟨i, rfl⟩ : ∃ i, j = i + 1 := ⟨j - 1, by omega⟩
     rfl
    have HBs : qH 223 #[.string s, .agg #[.int .i64 (att s j), .int .i64 (fin s (att s j))], .int .i64 (-1)] (.tuple #[.agg #[.int .i64 (att s (j - 1)), .int .i64 (fin s (att s (j - 1)))], .bool true]) := fun ww => tBeside_up s _ _ _ j ww hs rfl hj rfl h0
    have Hor : Hid (1 ≤ n ∨ (1 ≤ att s j ∧ bt s (att s j - 1) = cl)) := hor
    clear hor
    go_wp2_with fail
    refine (HBs.out _).mono ?_
    rintro r3 w3 ⟨rfl, h3⟩
    obtain ⟨hc3, hf3, hz3⟩ := qb h3
    (try simp at hz3)
    have T3 : Two w3 (w1.heap.size) (att s j) (fin s (att s j)) := qTw
    have ⟨T3_0, T3_1, T3_z, T3_l⟩ := T3
    clear hc3 hf3
    go_wp2
    have hq9 := HQ.out
    go_roundg j
    case measure => omega
    case rel =>
     refine Or.inl ⟨j - 1, att s j, n, by omega, by omega, rfl, rfl, ?_, by omega, by omega, hn, Hor.out, hu, rfl, Two.set1 (Two.set0 T3 _) _, ?_⟩
     ·have := fin_ge s (att s (j - 1)); omega
     ·repeat exact qB
   ·have e0 : j = 0 := by omega
    have ea : att s j = 0 := by rw [e0]; rfl
    have HZ : Hid (X = -1) := by rw [Hid, ← hu.out, ea]; rfl
    have HBs : qH 223 #[.string s, .agg #[.int .i64 (att s j), .int .i64 (fin s (att s j))], .int .i64 (-1)] (.tuple #[.agg #[.int .i64 (0), .int .i64 (0)], .bool false]) := fun ww => tBeside_none s _ _ _ ww hs (Or.inr rfl) (fun h => by omega) (fun _ => by omega)
    clear ea e0 hor hu
    go_wp2_with fail
    refine (HBs.out _).mono ?_
    rintro r3 w3 ⟨rfl, h3⟩
    obtain ⟨hc3, hf3, hz3⟩ := qb h3
    (try simp at hz3)
    have T3 : Two w3 (w1.heap.size) (att s j) (fin s (att s j)) := qTw
    have ⟨T3_0, T3_1, T3_z, T3_l⟩ := T3
    clear hc3 hf3
    go_wp2
    go_roundg 0
    case measure => omega
    case rel =>
     refine Or.inr ⟨HZ, rfl, ?_⟩
     repeat exact qB
 ) : P := h
theorem tSeekE_gen (cl op : Int) (I J : Nat) (hix : firstIdx ⟨#[40, 41, 91, 93, 123, 125]⟩ cl.toNat.toUInt8 = I) (hbx : bits BinOp.xor IntKind.i64 I 1 = J) (hJ : J < 6) (hel : (((⟨#[40, 41, 91, 93, 123, 125]⟩ : ByteArray)[J]'hJ).toNat : Int) = op) (hpar : (((I : Int) % 2) == 1) = true) (hne : (op == cl) = false) (hn10 : 32 ≤ cl) (hn11 : 32 ≤ op) (hn12 : ¬ op = cl) (s : ByteArray) (q d : Nat) (w : World) (hs : s.size ≤ 1000) (hq : q ≤ s.size) (hd : d ≤ 1) (hd0 : 1 ≤ d ∨ bt s q = cl) :
  qC 287 #[.string s, .int .u8 cl, .int .i64 q, .int .i64 d] w (.tuple #[.int .i64 (mtI (mtD s cl op d (q + 1))), .bool (mtB (mtD s cl op d (q + 1)))]) := by
 generalize hX : mtD s cl op d (q + 1) = X
 have HX : Hid (mtD s cl op d (q + 1) = X) := hX
 clear hX
 have hq' : q ≤ s.size := by omega
 have hm := lin_lt hq'
 have HL : qH 195 #[.string s, .int .i64 q] (.agg #[.int .i64 (att s (lin s q)), .int .i64 (fin s (att s (lin s q)))]) := by
  intro ww
  have := tLine_any s q q ww hs rfl hq'
  rw [fin_eq hq', beg_eq hq'] at this
  exact this
 go_enter func287, ntmps287
 go_wp2_with fail
 go_step3
 go_wp2_with fail
 refine (indexByte_any ⟨#[40, 41, 91, 93, 123, 125]⟩ cl _).mono ?_
 rintro e w9 ⟨rfl, h9⟩
 have h9 := h9.symm
 subst h9
 rw [hix]
 go_wp2_with fail
 refine (HL.out _).mono ?_
 rintro e w1 ⟨rfl, h1⟩
 obtain ⟨hc1, hf1, hz1⟩ := qb h1
 try simp at hz1
 go_wp2
 go_step3
 go_wp2
 go_loopg [2, 3, 14] (lin s q + 1) (fun g pl dp mo wr => (∃ j K m : Nat, j < lns s ∧ g = j + 1 ∧ pl = .int .i64 ((K : Int) - 1) ∧ dp = .int .i64 m ∧ att s j ≤ K ∧ K ≤ fin s (att s j) + 1 ∧ K ≤ s.size + 1 ∧ m + K ≤ 1002 ∧ (1 ≤ m ∨ (1 ≤ K ∧ bt s (K - 1) = cl)) ∧ Hid (mtD s cl op m K = X) ∧ mo = .bool true ∧ Two wr w1.heap.size (att s j) (fin s (att s j)) ∧ Below w.heap.size w wr) ∨ (Hid (X = -1) ∧ mo = .bool false ∧ Below w.heap.size w wr))
 case atStart =>
  have ha : att s (lin s q) ≤ q := by rw [← beg_eq hq']; exact beg_le s q
  have hf : q ≤ fin s (att s (lin s q)) := by rw [← fin_eq hq']; exact fin_ge s q
  refine Or.inl ⟨lin s q, q + 1, d, hm, rfl, by first | rfl | (congr 1; omega), rfl, by omega, by omega, by omega, by omega, ?_, HX, rfl, Two.new _ _ _ _, ?_⟩
  ·rcases hd0 with h | h
   ·exact Or.inl h
   ·exact Or.inr ⟨by omega, h⟩
  ·repeat exact qB
 case round =>
  rcases hrel with ⟨j, K, m, hj, hg, rfl, rfl, hka, hkf, hks, hmb, hor, hu, rfl, T, hB⟩ | ⟨HZ, rfl, hB⟩
  ·have t0 := (T).c0
   have t1 := (T).c1
   have tz := (T).fz
   have tl := (T).lt
   have hfl := fin_le (att_in hj).1
   have hfg := fin_ge s (att s j)
   by_cases hK : fin s (att s j) < K
   ·have eK : K = fin s (att s j) + 1 := by omega
    have h10 : bt s (fin s (att s j)) = 10 ∨ bt s (fin s (att s j)) = -1 := by
     by_cases hfs : fin s (att s j) < s.size
     ·left
      have h := fin_nl (s := s) (p := att s j) hfs
      unfold Nib.nl at h
      simpa using h
     ·right
      unfold bt
      rw [dif_neg qo]
    have hm1 : 1 ≤ m := by
     rcases hor with h | h
     ·exact h
     ·have h2 := h.2
      rw [eK, Nat.add_sub_cancel] at h2
      omega
    have hu2 : Hid (mtD s cl op m (fin s (att s j)) = X) := by
     rw [Hid, ← hu.out, eK]
     have e : dep s cl op m (fin s (att s j)) = (m : Int) := by unfold dep; rw [if_neg qo, if_neg qo]; omega
     simp only [mtD]
     rw [e, if_neg qo]
    have hu := hu2
    have hor : 1 ≤ m ∨ (1 ≤ fin s (att s j) ∧ bt s (fin s (att s j) - 1) = cl) := Or.inl hm1
    have hKI : ((fin s (att s j) : Nat) : Int) - 1 < (K : Int) - 1 := by omega
    clear hu2 h10
    have HEK : Hid (K = fin s (att s j) + 1) := eK
    clear eK
    have hmf : m + fin s (att s j) ≤ 1002 := by omega
    go_wp2
    go_loopg [2, 3] (fin s (att s j) - att s j) (fun g2 pl dp wx => ∃ k n : Nat, att s j ≤ k ∧ k ≤ fin s (att s j) ∧ g2 = k - att s j ∧ pl = .int .i64 ((k : Int) - 1) ∧ dp = .int .i64 n ∧ n + k ≤ 1002 ∧ (1 ≤ n ∨ (1 ≤ k ∧ bt s (k - 1) = cl)) ∧ Hid (mtD s cl op n k = X) ∧ wx = wr)
    case atStart => exact ⟨fin s (att s j), m, by omega, by omega, rfl, by first | rfl | (congr 1; omega), rfl, by omega, hor, hu, rfl⟩
    case round =>
     exact qt6
   ·have hKI : ¬ ((fin s (att s j) : Nat) : Int) - 1 < (K : Int) - 1 := by omega
    have hKI2 : (K : Int) - 1 ≤ ((fin s (att s j) : Nat) : Int) - 1 := by omega
    clear hKI
    go_wp2
    go_loopg [2, 3] (K - att s j) (fun g2 pl dp wx => ∃ k n : Nat, att s j ≤ k ∧ k ≤ fin s (att s j) ∧ g2 = k - att s j ∧ pl = .int .i64 ((k : Int) - 1) ∧ dp = .int .i64 n ∧ n + k ≤ 1002 ∧ (1 ≤ n ∨ (1 ≤ k ∧ bt s (k - 1) = cl)) ∧ Hid (mtD s cl op n k = X) ∧ wx = wr)
    case atStart => exact ⟨K, m, by omega, by omega, rfl, by first | rfl | (congr 1; omega), rfl, by omega, hor, hu, rfl⟩
    case round =>
     exact qt6
  ·go_wp2
   (try rw [Exit.noGoto_ret])
   all_goals
    first
     | (exact qV (.tuple #[.int .i64 0, .bool false]) (by simp [results, results287, go_sem]) (by rw [HZ.out]; rfl))
theorem tSeekE_93 (s : ByteArray) (q d : Nat) (w : World) (hs : s.size ≤ 1000) (hq : q ≤ s.size) (hd : d ≤ 1) (hd0 : 1 ≤ d ∨ bt s q = 93) :
  qC 287 #[.string s, .int .u8 93, .int .i64 q, .int .i64 d] w (.tuple #[.int .i64 (mtI (mtD s 93 91 d (q + 1))), .bool (mtB (mtD s 93 91 d (q + 1)))]) :=
 tSeekE_gen 93 91 3 2 qd qd qd qd qd qd qd qd qd s q d w hs hq hd hd0
theorem tSeekE_125 (s : ByteArray) (q d : Nat) (w : World) (hs : s.size ≤ 1000) (hq : q ≤ s.size) (hd : d ≤ 1) (hd0 : 1 ≤ d ∨ bt s q = 125) :
  qC 287 #[.string s, .int .u8 125, .int .i64 q, .int .i64 d] w (.tuple #[.int .i64 (mtI (mtD s 125 123 d (q + 1))), .bool (mtB (mtD s 125 123 d (q + 1)))]) :=
 tSeekE_gen 125 123 5 4 qd qd qd qd qd qd qd qd qd s q d w hs hq hd hd0
theorem sWordStep_any (s : ByteArray) (r : Nat) (g : Bool) (w : World) (hs : s.size ≤ 1000) (hr : r ≤ s.size) :
  qC 249 #[.string s, .int .i64 r, .bool g] w (.int .i64 (wstep s g r)) := by
 have hw := wfrom_le (g := g) hr
 have HI : qH 282 #[.string s, .int .i64 (wfrom s r g : Nat), .bool true] (.int .i64 (wstep s g r)) := by
  intro ww
  refine sNextInk_any s (wfrom s r g) true (wgap s r) ww hs hw ?_ ?_ ?_
  ·intro i h; exact wgap1 s r i h
  ·intro i _ _ h h2
   refine wgap2 s r i g h ?_
   rcases h2 with h2 | h2 | h2
   ·exact absurd h2 qi
   ·exact Or.inl h2
   ·exact Or.inr h2
  ·intro _ i h h2; exact wgap3 s r i g h h2
 have HK : Hid (∀ ww, Calls Tryz.prog 247 #[.string s, .int .i64 r] ww fun e w' => e = .returned (.bool (decide (r < s.size) && !spc (bt s r))) ∧ w' = ww) := fun ww => sHasInk_any s r r ww hs rfl hr
 generalize wstep s g r = X at *
 by_cases hk : r < s.size ∧ spc (bt s r) = false
 ·have e1 : (decide (r < s.size) && !spc (bt s r)) = true := by rw [hk.2, decide_eq_true hk.1]; rfl
  have e2 : wfrom s r g = wrun s r g := by unfold wfrom; rw [if_pos hk]
  rw [e1] at HK
  rw [e2] at HI
  have hnl : bt s r ≠ 10 := by have := spc_nl_f hk.2; unfold Nib.nl at this; simpa using this
  have HR : qH 256 #[.string s, .int .i64 r, .bool g] (.agg #[.int .i64 (runB s r g), .int .i64 (wrun s r g)]) := fun ww => tRun_any s r r g ww hs rfl hk.1 hnl
  clear e1 e2 hk hnl hw
  have hx := ix1 (runB s r g) (wrun s r g)
  generalize runB s r g = A at *
  generalize wrun s r g = B at *
  go_enter func249, ntmps249
  go_wp2_with fail
  refine (HK.out _).mono ?_
  rintro e w' ⟨rfl, rfl⟩
  go_wp2_with fail
  refine (HR.out _).mono ?_
  rintro e w1 ⟨rfl, h1⟩
  obtain ⟨hc1, hf1, hz1⟩ := qb h1
  try simp at hz1
  go_wp2_with fail
  refine (HI.out _).mono ?_
  rintro e w2 ⟨rfl, h2⟩
  obtain ⟨hc2, hf2, hz2⟩ := qb h2
  try simp at hz2
  go_wp2
  all_goals
   first
    | (exact qV (.int .i64 X) (by simp [results, results249, go_sem]) rfl)
 ·have e1 : (decide (r < s.size) && !spc (bt s r)) = false := by
   cases hs : spc (bt s r) with
   | true => simp
   | false => rw [hs] at hk; simp only [and_true] at hk; simp [hk]
  have e2 : wfrom s r g = r := by unfold wfrom; rw [if_neg hk]
  rw [e1] at HK
  rw [e2] at HI
  clear e1 e2 hk hw
  go_enter func249, ntmps249
  go_wp2_with fail
  refine (HK.out _).mono ?_
  rintro e w' ⟨rfl, rfl⟩
  go_wp2_with fail
  refine (HI.out _).mono ?_
  rintro e w2 ⟨rfl, h2⟩
  obtain ⟨hc2, hf2, hz2⟩ := qb h2
  try simp at hz2
  go_wp2
  all_goals
   first
    | (exact qV (.int .i64 X) (by simp [results, results249, go_sem]) rfl)
