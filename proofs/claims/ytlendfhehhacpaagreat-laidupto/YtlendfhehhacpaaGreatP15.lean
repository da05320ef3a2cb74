/- A part. -/
import Derived.Test.YtlendfhehhacpaaGreatP14
import Derived.Test.YtlendfhehhacpaaGreatP11
import Derived.Test.YtlendfhehhacpaaGreatP10
import Derived.Laws.BytesArg
set_option linter.unusedVariables false
set_option linter.unusedSimpArgs false
set_option maxRecDepth 100000
set_option maxHeartbeats 8000000
namespace Go.Proofs.YtlendfhehhacpaaGreat
open Go.RowKit
def mtI (x : Int) : Int := if x < 0 then 0 else x
def mtB (x : Int) : Bool := decide (0 ≤ x)
theorem qt4 {P : Prop} (h : P := by
  clear hu hor hmb
  obtain ⟨i, n, hi1, hi2, rfl, rfl, hn, hor, hu, rfl⟩ := hrel
  have hfl := Nib.fin_le (Nib.att_in hj).1
  have hle' : ((Nib.att s j : Nat) : Int) ≤ (i : Int) := by omega
  by_cases hlt : i < Nib.fin s (Nib.att s j)
  ·have his : i < s.size := by omega
   have ef : s.size - i = (s.size - (i + 1)) + 1 := by omega
   by_cases h40 : Nib.bt s i = cl
   ·have hcc : (((s[i]'his).toNat : Int) == cl) = true := by rw [← Nib.bt_in his]; simp [h40]
    have HS : Hid (Nib.mtU s cl op (s.size - (i + 1)) ((n + 1 : Nat) : Int) (i + 1) = X) := by
     rw [Hid, ← hu.out, ef]
     have e : Nib.dep s cl op n i = ((n + 1 : Nat) : Int) := by unfold Nib.dep; rw [if_pos h40, if_neg qo]; omega
     simp only [Nib.mtU]
     rw [if_pos his, e, if_neg qo]
    clear hu hor h40 ef
    go_wp2
    go_roundg (Nib.fin s (Nib.att s j) - (i + 1))
    case measure => omega
    case rel => exact ⟨i + 1, n + 1, by omega, by omega, by go_num, by go_num, by omega, Or.inl qo, HS, rfl⟩
   ·have hcc : (((s[i]'his).toNat : Int) == cl) = false := by rw [← Nib.bt_in his]; simp [h40]
    have hn1 : 1 ≤ n := by
     rcases hor with h | h
     ·exact h
     ·exact absurd h h40
    by_cases h41 : Nib.bt s i = op
    ·have hcd : (((s[i]'his).toNat : Int) == op) = true := by rw [← Nib.bt_in his]; simp [h41]
     have e : Nib.dep s cl op n i = (n : Int) - 1 := by unfold Nib.dep; rw [if_neg h40, if_pos h41]; omega
     by_cases hn2 : n = 1
     ·have HS : Hid (X = (i : Int)) := by
       rw [Hid, ← hu.out, ef]
       simp only [Nib.mtU]
       rw [if_pos his, e, if_pos qo]
      subst hn2
      clear hu hor h40 h41 e ef
      go_wp2
      (try rw [Exit.noGoto_ret])
      all_goals
       first
        | (exact qV (.tuple #[.int .i64 i, .bool true]) (by simp [results, Tryz.results287, go_sem]) (by rw [HS.out]; unfold mtI mtB; rw [if_neg qo, decide_eq_true qo]))
     ·have HS : Hid (Nib.mtU s cl op (s.size - (i + 1)) ((n - 1 : Nat) : Int) (i + 1) = X) := by
       rw [Hid, ← hu.out, ef]
       simp only [Nib.mtU]
       rw [if_pos his, e, if_neg qo, show ((n - 1 : Nat) : Int) = (n : Int) - 1 by omega]
      have hm0 : (((n : Int) - 1) == 0) = false := by simp; omega
      clear hu hor h40 h41 e ef
      go_wp2
      go_roundg (Nib.fin s (Nib.att s j) - (i + 1))
      case measure => omega
      case rel => exact ⟨i + 1, n - 1, by omega, by omega, by go_num, by first | rfl | (congr 1; omega), by omega, Or.inl qo, HS, rfl⟩
    ·have hcd : (((s[i]'his).toNat : Int) == op) = false := by rw [← Nib.bt_in his]; simp [h41]
     have HS : Hid (Nib.mtU s cl op (s.size - (i + 1)) (n : Int) (i + 1) = X) := by
      rw [Hid, ← hu.out, ef]
      have e : Nib.dep s cl op n i = (n : Int) := by unfold Nib.dep; rw [if_neg h40, if_neg h41]; omega
      simp only [Nib.mtU]
      rw [if_pos his, e, if_neg qo]
     clear hu hor h40 h41 ef
     go_wp2
     go_roundg (Nib.fin s (Nib.att s j) - (i + 1))
     case measure => omega
     case rel => exact ⟨i + 1, n, by omega, by omega, by go_num, rfl, by omega, Or.inl hn1, HS, rfl⟩
  ·have HEI : Hid (i = Nib.fin s (Nib.att s j)) := (by omega : i = Nib.fin s (Nib.att s j))
   have hgeI : ¬ (i : Int) < ((Nib.fin s (Nib.att s j) : Nat) : Int) := by omega
   by_cases hne : j + 1 < Nib.lns s
   ·have hef := Nib.fin_lt_of hne
    have h10 : Nib.bt s i = 10 := by
     have h := Nib.fin_nl hef
     rw [← HEI.out] at h
     unfold Nib.nl at h
     simpa using h
    have hn1 : 1 ≤ n := by
     rcases hor with h | h
     ·exact h
     ·omega
    have HS : Hid (Nib.mtU s cl op (s.size - Nib.att s (j + 1)) (n : Int) (Nib.att s (j + 1)) = X) := by
     have h9 : Nib.att s (j + 1) = i + 1 := by rw [HEI.out]; rfl
     have his : i < s.size := by have := HEI.out; omega
     rw [Hid, ← hu.out, h9, show s.size - i = (s.size - (i + 1)) + 1 by omega]
     have e : Nib.dep s cl op n i = (n : Int) := by unfold Nib.dep; rw [if_neg qo, if_neg qo]; omega
     simp only [Nib.mtU]
     rw [if_pos his, e, if_neg qo]
    clear hu hor h10
    have HBs : qH 223 #[.string s, .agg #[.int .i64 (Nib.att s j), .int .i64 (Nib.fin s (Nib.att s j))], .int .i64 1] (.tuple #[.agg #[.int .i64 (Nib.att s (j + 1)), .int .i64 (Nib.fin s (Nib.att s (j + 1)))], .bool true]) := fun ww => tBeside_down s _ _ _ j ww hs rfl rfl rfl hne
    go_wp2_with fail
    refine (HBs.out _).mono ?_
    rintro r2 w2 ⟨rfl, h2⟩
    obtain ⟨hc2, hf2, hz2⟩ := qb h2
    (try simp at hz2)
    have T2 : Two w2 (w1.heap.size) (Nib.att s j) (Nib.fin s (Nib.att s j)) := qTw
    have ⟨T2_0, T2_1, T2_z, T2_l⟩ := T2
    clear hc2 hf2
    go_wp2
    go_roundg (Nib.lns s - (j + 1))
    case measure => omega
    case rel =>
     have h9 : Nib.att s (j + 1) = i + 1 := by rw [HEI.out]; rfl
     refine Or.inl ⟨j + 1, i, Nib.att s (j + 1), n, hne, by omega, rfl, rfl, by omega, Nib.fin_ge _ _, by omega, Or.inl hn1, HS, rfl, Two.set1 (Two.set0 T2 _) _, ?_⟩
     repeat exact qB
   ·have hF := Nib.fin_last (s := s) (m := j) qo
    have HZ : Hid (X = -1) := by
     rw [Hid, ← hu.out, show s.size - i = 0 by have := HEI.out; omega]
     rfl
    clear hu hor
    have HBs : qH 223 #[.string s, .agg #[.int .i64 (Nib.att s j), .int .i64 (Nib.fin s (Nib.att s j))], .int .i64 1] (.tuple #[.agg #[.int .i64 (0), .int .i64 (0)], .bool false]) := fun ww => tBeside_none s _ _ _ ww hs (Or.inl rfl) (fun _ => by omega) (fun h => by omega)
    clear hF
    go_wp2_with fail
    refine (HBs.out _).mono ?_
    rintro r2 w2 ⟨rfl, h2⟩
    obtain ⟨hc2, hf2, hz2⟩ := qb h2
    (try simp at hz2)
    have T2 : Two w2 (w1.heap.size) (Nib.att s j) (Nib.fin s (Nib.att s j)) := qTw
    have ⟨T2_0, T2_1, T2_z, T2_l⟩ := T2
    clear hc2 hf2
    go_wp2
    go_roundg 0
    case measure => omega
    case rel =>
     refine Or.inr ⟨HZ, rfl, ?_⟩
     repeat exact qB
 ) : P := h
theorem tSeek_gen (cl op : Int) (I J : Nat) (hix : firstIdx ⟨#[40, 41, 91, 93, 123, 125]⟩ cl.toNat.toUInt8 = I) (hbx : bits BinOp.xor IntKind.i64 I 1 = J) (hJ : J < 6) (hel : (((⟨#[40, 41, 91, 93, 123, 125]⟩ : ByteArray)[J]'hJ).toNat : Int) = op) (hpar : (((I : Int) % 2) == 1) = false) (hne : (op == cl) = false) (hn10 : 32 ≤ cl) (hn11 : 32 ≤ op) (hn12 : ¬ op = cl) (s : ByteArray) (q d : Nat) (w : World) (hs : s.size ≤ 1000) (hq : q < s.size) (hd : d ≤ 1) (hd0 : 1 ≤ d ∨ Nib.bt s q = cl) :
  qC 287 #[.string s, .int .u8 cl, .int .i64 q, .int .i64 d] w (.tuple #[.int .i64 (mtI (Nib.mtU s cl op (s.size - q) d q)), .bool (mtB (Nib.mtU s cl op (s.size - q) d q))]) := by
 generalize hX : Nib.mtU s cl op (s.size - q) d q = X
 have HX : Hid (Nib.mtU s cl op (s.size - q) d q = X) := hX
 clear hX
 have hq' : q ≤ s.size := by omega
 have hm := Nib.lin_lt hq'
 have HL : qH 195 #[.string s, .int .i64 q] (.agg #[.int .i64 (Nib.att s (Nib.lin s q)), .int .i64 (Nib.fin s (Nib.att s (Nib.lin s q)))]) := by
  intro ww
  have := tLine_any s q q ww hs rfl hq'
  rw [Nib.fin_eq hq', Nib.beg_eq hq'] at this
  exact this
 go_enter Tryz.func287, Tryz.ntmps287
 go_wp2_with fail
 go_step3
 go_wp2_with fail
 refine (indexByte_any ⟨#[40, 41, 91, 93, 123, 125]⟩ cl _).mono ?_
 rintro e w9 ⟨rfl, h9⟩
 have h9 := h9.symm
 subst h9
 rw [hix]
 go_wp2_with fail
 refine (HL.out _).mono ?_
 rintro e w1 ⟨rfl, h1⟩
 obtain ⟨hc1, hf1, hz1⟩ := qb h1
 try simp at hz1
 go_wp2
 go_step3
 go_wp2
 go_loopg [2, 3, 14] (Nib.lns s - Nib.lin s q) (fun g pl dp mo wr => (∃ j pv b m : Nat, j < Nib.lns s ∧ g + j = Nib.lns s ∧ pl = .int .i64 pv ∧ dp = .int .i64 m ∧ b = max pv (Nib.att s j) ∧ b ≤ Nib.fin s (Nib.att s j) ∧ m ≤ b + 1 ∧ (1 ≤ m ∨ Nib.bt s b = cl) ∧ Hid (Nib.mtU s cl op (s.size - b) m b = X) ∧ mo = .bool true ∧ Two wr w1.heap.size (Nib.att s j) (Nib.fin s (Nib.att s j)) ∧ Below w.heap.size w wr) ∨ (Hid (X = -1) ∧ mo = .bool false ∧ Below w.heap.size w wr))
 case atStart =>
  refine Or.inl ⟨Nib.lin s q, q, q, d, hm, ?_, rfl, rfl, ?_, ?_, by omega, hd0, HX, rfl, Two.new _ _ _ _, ?_⟩
  ·omega
  ·rw [← Nib.beg_eq hq']; have := Nib.beg_le s q; omega
  ·rw [← Nib.fin_eq hq']; exact Nib.fin_ge s q
  ·repeat exact qB
 case round =>
  rcases hrel with ⟨j, pv, b, m, hj, hg, rfl, rfl, hb, hbf, hmb, hor, hu, rfl, T, hB⟩ | ⟨HZ, rfl, hB⟩
  ·have t0 := (T).c0
   have t1 := (T).c1
   have tz := (T).fz
   have tl := (T).lt
   by_cases hpv : (pv : Int) < (Nib.att s j : Nat)
   ·have eb : b = Nib.att s j := by omega
    subst eb
    clear hb
    go_wp2
    go_loopg [2, 3] (Nib.fin s (Nib.att s j) - Nib.att s j) (fun g2 pl dp wx => ∃ i n : Nat, Nib.att s j ≤ i ∧ i + g2 = Nib.fin s (Nib.att s j) ∧ pl = .int .i64 i ∧ dp = .int .i64 n ∧ n ≤ i + 1 ∧ (1 ≤ n ∨ Nib.bt s i = cl) ∧ Hid (Nib.mtU s cl op (s.size - i) n i = X) ∧ wx = wr)
    case atStart => exact ⟨Nib.att s j, m, Nat.le_refl _, by omega, rfl, rfl, hmb, hor, hu, rfl⟩
    case round =>
     exact qt4
   ·have eb : pv = b := by omega
    have hpv' : ((Nib.att s j : Nat) : Int) ≤ (pv : Int) := by omega
    subst eb
    clear hb hpv
    go_wp2
    go_loopg [2, 3] (Nib.fin s (Nib.att s j) - pv) (fun g2 pl dp wx => ∃ i n : Nat, pv ≤ i ∧ i + g2 = Nib.fin s (Nib.att s j) ∧ pl = .int .i64 i ∧ dp = .int .i64 n ∧ n ≤ i + 1 ∧ (1 ≤ n ∨ Nib.bt s i = cl) ∧ Hid (Nib.mtU s cl op (s.size - i) n i = X) ∧ wx = wr)
    case atStart => exact ⟨pv, m, Nat.le_refl _, by omega, rfl, rfl, hmb, hor, hu, rfl⟩
    case round =>
     exact qt4
  ·go_wp2
   (try rw [Exit.noGoto_ret])
   all_goals
    first
     | (exact qV (.tuple #[.int .i64 0, .bool false]) (by simp [results, Tryz.results287, go_sem]) (by rw [HZ.out]; rfl))
theorem tSeek_40 (s : ByteArray) (q d : Nat) (w : World) (hs : s.size ≤ 1000) (hq : q < s.size) (hd : d ≤ 1) (hd0 : 1 ≤ d ∨ Nib.bt s q = 40) :
  qC 287 #[.string s, .int .u8 40, .int .i64 q, .int .i64 d] w (.tuple #[.int .i64 (mtI (Nib.mtU s 40 41 (s.size - q) d q)), .bool (mtB (Nib.mtU s 40 41 (s.size - q) d q))]) :=
 tSeek_gen 40 41 0 1 qd qd qd qd qd qd qd qd qd s q d w hs hq hd hd0
theorem mBecome (r d : Nat) (p : Pg) (x : ByteArray) (w : World) (h : RdAt w r d p) (hx : x.size ≤ 1000) :
  Calls Tryz.prog 175 #[.pointer (some ⟨d, 0, none⟩), .string x] w fun e w' => e = .returned (.bool true) ∧ RdAt w' r d { p with t := x } ∧ Upd [d] w w' := by
 have H := h
 have HS := h.set_t x
 have c0 := h.dk.c0
 have fz := h.dk.fz
 have lt := h.dk.lt
 have hy : ((1000 : Int) < x.size) = False := by simp; omega
 generalize ({ p with t := x } : Pg) = p2 at *
 clear h hx
 go_enter Tryz.func175, Tryz.ntmps175
 go_wp2
 go_ret
 exact ⟨rfl, HS, Upd.setCell (Upd.refl _ _) (Or.inl qi) _⟩
theorem mBecome_long (r d : Nat) (x : ByteArray) (w : World) (hx : 1000 < x.size) :
  Calls Tryz.prog 175 #[.pointer (some ⟨d, 0, none⟩), .string x] w fun e w' => e = .returned (.bool false) ∧ w' = w := by
 have hy : ((1000 : Int) < x.size) = True := by simp; omega
 clear hx
 go_enter Tryz.func175, Tryz.ntmps175
 go_wp2
 go_ret
 exact ⟨rfl, rfl⟩
theorem bTake_normal_moreB (b r d : Nat) (tv : Value) (dg : ByteArray) (p : Pg) (key : Int) (A B : World → Prop) (T : List Nat) (w : World) (hb : BdAt w b r d tv dg) (hA : A w) (fA : Firm A) (fB : Firm B) (hr : HasR A r d p) (hm : p.mode = 0) (hk : ¬ key = 27)
  (HC : GivesB 137 #[.agg #[.pointer (some ⟨r, 0, none⟩)], .int .u8 key] A B 0 T) :
  Calls Tryz.prog 46 #[.pointer (some ⟨b, 0, none⟩), .int .u8 key] w fun e w' => e = .returned (.int .i64 0) ∧ B w' ∧ Upd T w w' := by
 have HO : Hid (∀ ww, BdAt ww b r d tv dg → RdAt ww r d p → qC 64 #[.pointer (some ⟨b, 0, none⟩)] ww (.iface 77 (.agg #[.pointer (some ⟨r, 0, none⟩)]))) := fun ww h1 h2 => mOn_normal b r d tv dg p ww h1 h2 hm
 have H := hr w hA
 have hk' : (key == 27) = false := by simp [hk]
 have hmt := meth_normal_take ⟨r, 0, none⟩
 clear hm hk
 go_enter Tryz.func46, Tryz.ntmps46
 go_wp2_with fail
 refine Calls.mono (HO.out _ hb H) ?_
 rintro e w1 ⟨rfl, h1⟩
 go_wp2_with fail
 refine Calls.mono (HC.out _ (fA _ _ hA qB)) ?_
 rintro e w2 ⟨rfl, h2, u2⟩
 go_wp2
 go_ret
 refine ⟨rfl, ?_, ?_⟩
 ·exact (fB _ _ h2 qB)
 ·repeat exact qU
theorem qt47 {P : Prop} (h : P := by
  clear hm hk hO0 hO3
  go_enter Tryz.func46, Tryz.ntmps46
  go_wp2_with fail
  refine Calls.mono (HO.out _ hb H) ?_
  rintro e w1 ⟨rfl, h1⟩
  go_wp2_with fail
  refine Calls.mono (HC.out _ (fA _ _ hA qB)) ?_
  rintro e w2 ⟨rfl, h2, u2⟩
  have B2 := (hb.below h1).upd u2 hbT
  have e0 := B2.c0
  obtain ⟨p2, R2⟩ := hBr w2 h2
  have g0 := R2.bg.c0
  have gl := R2.bg.lt
  go_wp2_with fail
  refine Calls.mono (HF.out _ (fB _ _ h2 qB)) ?_
  rintro e w3 ⟨rfl, h3, u3⟩
  go_wp2
  go_ret
  refine ⟨rfl, ?_, ?_⟩
  ·exact (fC _ _ h3 qB)
  ·refine Upd.trans (S := r :: T) ?_ (Upd.mono u3 qi)
   refine Upd.trans (S := r :: T) ?_ (Upd.mono u2 (by intro k hk; simp [hk]))
   exact Upd.of_below h1
 ) : P := h
theorem bTake_normal_doneB (b r d : Nat) (tv : Value) (dg : ByteArray) (p : Pg) (key O : Int) (C : World → Prop) (A B : World → Prop) (T : List Nat) (w : World) (hb : BdAt w b r d tv dg) (hA : A w) (fA : Firm A) (fB : Firm B) (hr : HasR A r d p) (hm : p.mode = 0) (hk : ¬ key = 27) (hbT : b ∉ T) (hO0 : ¬ O = 0) (hO3 : ¬ O = 3) (fC : Firm C) (hBr : ∀ ww, B ww → ∃ p2, RdAt ww r d p2)
  (HF : Hid (∀ ww, B ww → Calls Tryz.prog 65 #[.pointer (some ⟨r, 1, none⟩)] ww fun e w' => e = .returned (.tuple #[]) ∧ C w' ∧ Upd [r] ww w'))
  (HC : GivesB 137 #[.agg #[.pointer (some ⟨r, 0, none⟩)], .int .u8 key] A B O T) :
  Calls Tryz.prog 46 #[.pointer (some ⟨b, 0, none⟩), .int .u8 key] w fun e w' => e = .returned (.int .i64 O) ∧ C w' ∧ Upd (r :: T) w w' := by
 have HO : Hid (∀ ww, BdAt ww b r d tv dg → RdAt ww r d p → qC 64 #[.pointer (some ⟨b, 0, none⟩)] ww (.iface 77 (.agg #[.pointer (some ⟨r, 0, none⟩)]))) := fun ww h1 h2 => mOn_normal b r d tv dg p ww h1 h2 hm
 have H := hr w hA
 have hk' : (key == 27) = false := by simp [hk]
 have hO0' : (O == 0) = false := by simp [hO0]
 have hO3' : (O == 3) = false := by simp [hO3]
 have hmt := meth_normal_take ⟨r, 0, none⟩
 exact qt47
theorem bTake_marking_doneB (b r d : Nat) (tv : Value) (dg : ByteArray) (p : Pg) (key O : Int) (C : World → Prop) (A B : World → Prop) (T : List Nat) (w : World) (hb : BdAt w b r d tv dg) (hA : A w) (fA : Firm A) (fB : Firm B) (hr : HasR A r d p) (hm : p.mode = 2 ∨ p.mode = 3) (hk : ¬ key = 27) (hbT : b ∉ T) (hO0 : ¬ O = 0) (hO3 : ¬ O = 3) (fC : Firm C) (hBr : ∀ ww, B ww → ∃ p2, RdAt ww r d p2)
  (HF : Hid (∀ ww, B ww → Calls Tryz.prog 65 #[.pointer (some ⟨r, 1, none⟩)] ww fun e w' => e = .returned (.tuple #[]) ∧ C w' ∧ Upd [r] ww w'))
  (HC : GivesB 309 #[.agg #[.pointer (some ⟨r, 0, none⟩)], .int .u8 key] A B O T) :
  Calls Tryz.prog 46 #[.pointer (some ⟨b, 0, none⟩), .int .u8 key] w fun e w' => e = .returned (.int .i64 O) ∧ C w' ∧ Upd (r :: T) w w' := by
 have HO : Hid (∀ ww, BdAt ww b r d tv dg → RdAt ww r d p → qC 64 #[.pointer (some ⟨b, 0, none⟩)] ww (.iface 81 (.agg #[.pointer (some ⟨r, 0, none⟩)]))) := fun ww h1 h2 => mOn_marking b r d tv dg p ww h1 h2 hm
 have H := hr w hA
 have hk' : (key == 27) = false := by simp [hk]
 have hO0' : (O == 0) = false := by simp [hO0]
 have hO3' : (O == 3) = false := by simp [hO3]
 have hmt := meth_marking_take ⟨r, 0, none⟩
 exact qt47
abbrev TakesB (b r d : Nat) (tv : Value) (dg : ByteArray) (key : Int) (A B : World → Prop) (O : Int) (T : List Nat) : Prop :=
 Hid (∀ ww, BdAt ww b r d tv dg → A ww → Calls Tryz.prog 46 #[.pointer (some ⟨b, 0, none⟩), .int .u8 key] ww fun e w' => e = .returned (.int .i64 O) ∧ B w' ∧ Upd T ww w')
theorem press_normal_moreB (b r d : Nat) (p : Pg) (tv : Value) (n : Nat) (xs : List Value) (dg : ByteArray) (key : Int) (A B : World → Prop) (T : List Nat) (w : World) (HB : BdAt w b r d tv dg) (ho : w.ownsRow 0 5 1 tv n xs) (hA : A w) (hr : HasR A r d p) (hbT : b ∉ T) (htb : tv.ownBlock ≠ some b) (htT : ∀ k, k ∈ T → tv.ownBlock ≠ some k) (hn : n ≤ 17592186044416) (hm : p.mode = 0) (sB : ∀ u v, B u → Upd (b :: own tv) u v → B v) (HT : TakesB b r d tv dg key A B 0 T) :
  Calls Tryz.prog 38 #[.pointer (some ⟨b, 0, none⟩), .int .u8 key] w fun e w' => e = .returned (.int .i64 0) ∧ B w' ∧ ∃ tv', BdAt w' b r d tv' dg ∧ w'.ownsRow 0 5 1 tv' (n + 1) (xs ++ [.int .u8 key]) ∧ (tv'.ownBlock = tv.ownBlock ∨ ∃ g, tv'.ownBlock = some g ∧ w.heap.size ≤ g) ∧ Upd (b :: (T ++ own tv)) w w' := by
 have HK : Hid (∀ ww, BdAt ww b r d tv dg → ww.ownsRow 0 5 1 tv n xs → Calls Tryz.prog 47 #[.pointer (some ⟨b, 1, none⟩), .int .u8 key, .int .i64 0] ww fun e w' => e = .returned (.tuple #[]) ∧ ∃ tv', BdAt w' b r d tv' dg ∧ w'.ownsRow 0 5 1 tv' (n + 1) (xs ++ [.int .u8 key]) ∧ (tv'.ownBlock = tv.ownBlock ∨ ∃ g, tv'.ownBlock = some g ∧ ww.heap.size ≤ g) ∧ Upd (b :: own tv) ww w') := fun ww h1 h2 => mKeep_normal b r d tv dg key n xs ww h1 htb h2 hn
 have HR := hr w hA
 have b0 := HB.c0
 have r0 := HR.bg.c0
 have d3 := HR.dk.c3
 rw [hm] at d3
 have bl := HB.lt
 have rl := HR.bg.lt
 have dl := HR.dk.lt
 clear hn
 go_enter Tryz.func38, Tryz.ntmps38
 go_wp2_with fail
 refine Calls.mono (HT.out _ HB hA) ?_
 rintro e w1 ⟨rfl, R1, u1⟩
 have B1 := HB.upd u1 hbT
 have o1 := ownsRow_upd ho u1 htT
 go_wp2_with fail
 refine Calls.mono (HK.out _ B1 o1) ?_
 rintro e w2 ⟨rfl, tv', B2, o2, f2, u2⟩
 have hz1 := u1.size
 have F : Hid (tv'.ownBlock = tv.ownBlock ∨ ∃ g, tv'.ownBlock = some g ∧ w1.heap.size ≤ g) := f2
 clear f2
 go_wp2
 go_ret
 refine ⟨rfl, sB _ _ R1 u2, tv', B2, o2, ?_, ?_⟩
 ·rcases F.out with hf | ⟨g, hg, hg2⟩
  ·exact Or.inl hf
  ·exact Or.inr ⟨g, hg, by omega⟩
 ·exact (u1.mono (by intro k hk; simp [hk])).trans (u2.mono (by intro k hk; simp only [List.mem_cons, List.mem_append] at hk ⊢; rcases hk with hk | hk <;> simp [hk]))
theorem press_normal_doneB (b r d : Nat) (p : Pg) (tv : Value) (n : Nat) (xs : List Value) (dg : ByteArray) (key O : Int) (A B : World → Prop) (T : List Nat) (w : World) (HB : BdAt w b r d tv dg) (ho : w.ownsRow 0 5 1 tv n xs) (hA : A w) (hr : HasR A r d p) (hbT : b ∉ T) (htb : tv.ownBlock ≠ some b) (htT : ∀ k, k ∈ T → tv.ownBlock ≠ some k) (hn : n ≤ 17592186044416) (hm : p.mode = 0) (sB : ∀ u v, B u → Upd (b :: own tv) u v → B v) (fB : Firm B) (hB : ∀ ww, B ww → ∃ p2, RdAt ww r d p2 ∧ ¬ p2.mode = 1 ∧ p2.now = p2.t) (hbr : b ≠ r) (hbd : b ≠ d) (hO0 : ¬ O = 0) (hO2 : ¬ O = 2) (HT : TakesB b r d tv dg key A B O T) :
  Calls Tryz.prog 38 #[.pointer (some ⟨b, 0, none⟩), .int .u8 key] w fun e w' => e = .returned (.int .i64 O) ∧ B w' ∧ BdAt w' b r d (.slice none 0 0) dg ∧ Upd (b :: (T ++ own tv)) w w' := by
 have HK : Hid (∀ ww, BdAt ww b r d tv dg → ww.ownsRow 0 5 1 tv n xs → Calls Tryz.prog 47 #[.pointer (some ⟨b, 1, none⟩), .int .u8 key, .int .i64 0] ww fun e w' => e = .returned (.tuple #[]) ∧ ∃ tv', BdAt w' b r d tv' dg ∧ w'.ownsRow 0 5 1 tv' (n + 1) (xs ++ [.int .u8 key]) ∧ (tv'.ownBlock = tv.ownBlock ∨ ∃ g, tv'.ownBlock = some g ∧ ww.heap.size ≤ g) ∧ Upd (b :: own tv) ww w') := fun ww h1 h2 => mKeep_normal b r d tv dg key n xs ww h1 htb h2 hn
 have HE : Hid (∀ tv' ww, BdAt ww b r d tv' dg → Calls Tryz.prog 48 #[.pointer (some ⟨b, 1, none⟩), .int .i64 O] ww fun e w' => e = .returned (.tuple #[]) ∧ BdAt w' b r d (.slice none 0 0) dg ∧ Upd [b] ww w') := fun tv' ww h1 => mEnd b r d tv' dg O ww h1 hO2
 have HR := hr w hA
 have b0 := HB.c0
 have r0 := HR.bg.c0
 have d3 := HR.dk.c3
 rw [hm] at d3
 have bl := HB.lt
 have rl := HR.bg.lt
 have dl := HR.dk.lt
 have hO0' : (O == 0) = false := by simp [hO0]
 have hO0q : (O != 0) = true := by simp [hO0]
 clear hn hO0 hO2
 go_enter Tryz.func38, Tryz.ntmps38
 go_wp2_with fail
 refine Calls.mono (HT.out _ HB hA) ?_
 rintro e w1 ⟨rfl, R1, u1⟩
 have B1 := HB.upd u1 hbT
 have o1 := ownsRow_upd ho u1 htT
 go_wp2_with fail
 refine Calls.mono (HK.out _ B1 o1) ?_
 rintro e w2 ⟨rfl, tv', B2, o2, f2, u2⟩
 have S2 := sB _ _ R1 u2
 obtain ⟨p2, R2, hm2, hnow⟩ := hB w2 S2
 have HH : Hid (∀ ww, RdAt ww r d p2 → qC 49 #[.pointer (some ⟨d, 5, none⟩), .string p2.t] ww (.tuple #[])) := fun ww h1 => hKeep_same r d p2 ww h1 hnow
 have hm2q : (p2.mode != 1) = true := by simp [hm2]
 have hm2' : (p2.mode == 1) = false := by simp [hm2]
 have e0 := B2.c0
 have e1 := R2.bg.c0
 have e2 := R2.dk.c3
 clear f2 o2 hm2 hnow
 go_wp2_with fail
 refine Calls.mono (HE.out _ _ B2) ?_
 rintro e w3 ⟨rfl, B3, u3⟩
 have R3 : RdAt w3 r d p2 := R2.upd u3 (by simp; exact fun e => hbr e.symm) (by simp; exact fun e => hbd e.symm)
 have S3 := sB _ _ S2 (u3.mono qi)
 have g0 := B3.c0
 have g1 := R3.bg.c0
 have g2 := R3.dk.c0
 have H := R3
 go_wp2_with fail
 go_region_held3 (fun ww => ww.cell? ⟨b, 0, none⟩ = some (.pointer (some ⟨r, 0, none⟩)) ∧ ww.cell? ⟨r, 0, none⟩ = some (.pointer (some ⟨d, 0, none⟩)) ∧ ww.cell? ⟨d, 0, none⟩ = some (.string p2.t)) (exact qK) ((go_at_call 49; refine Calls.mono (HH.out _ qRd) ?_; rintro r4 w4 ⟨rfl, h4⟩; have hz4 := h4.size; (try simp at hz4); (try have ⟨hl4_0, hk4_0⟩ := qL b w4.heap.size); (try have ⟨hl4_1, hk4_1⟩ := qL d w4.heap.size); (try have ⟨hl4_2, hk4_2⟩ := qL r w4.heap.size)))
 go_wp2
 go_ret
 have B4 := (B3.drew).below h4
 refine ⟨rfl, fB _ _ (fB _ _ S3 ((Below.refl _ _).drew)) h4, B4, ?_⟩
 refine Upd.below (Upd.drew ?_) h4
 exact ((u1.mono (by intro k hk; simp [hk])).trans (u2.mono (by intro k hk; simp only [List.mem_cons, List.mem_append] at hk ⊢; rcases hk with hk | hk <;> simp [hk]))).trans (u3.mono qi)
theorem mEnd_did (b r d g n cap : Nat) (ns : List Int) (dg : ByteArray) (w : World) (hb : BdAt w b r d (.slice (some ⟨g, 0, none⟩) n cap) dg) (ho : w.ownsRow 0 5 1 (.slice (some ⟨g, 0, none⟩) n cap) n (ns.map (Value.int .u8))) (hn0 : 0 < n) (hl : ns.length = n) :
  Calls Tryz.prog 48 #[.pointer (some ⟨b, 1, none⟩), .int .i64 2] w fun e w' => e = .returned (.tuple #[]) ∧ BdAt w' b r d (.slice none 0 0) (strOfNums ns) ∧ Upd [b] w w' := by
 have HS := (hb.set_dg (strOfNums ns)).set_tv (.slice none 0 0)
 have hcv : (convert 48 9 (.slice (some ⟨g, 0, none⟩) n cap)).run Tryz.prog w = .ok (.string (strOfNums ns)) w := by
  refine run_convert_bytes_arg w 48 5 Tryz.underlying48 Tryz.underlying5 g 0 n cap ns hl ?_ 9 Tryz.underlying9
  intro i hi
  have hx := ho.cells (g := g) rfl i (.int .u8 (ns.getD i 0)) (by
   rw [List.getElem?_map]
   rw [List.getElem?_eq_getElem qo]
   simp [List.getD_eq_getElem?_getD, List.getElem?_eq_getElem (show i < ns.length by omega)])
  have ha : (⟨g, 0, none⟩ : Addr).add i = ⟨g, 0 + i, none⟩ := by unfold Addr.add; split <;> simp_all
  rw [ha] at hx
  exact hx
 obtain ⟨b0, b1, b2, b3, b4, b5, bz, bl⟩ := hb
 have hn1 : (0 : Int) < ((n : Nat) : Int) := by omega
 generalize strOfNums ns = X at *
 clear ho
 go_enter Tryz.func48, Tryz.ntmps48
 go_wp2
 go_end0
 refine ⟨rfl, HS, ?_⟩
 repeat exact qU
end Go.Proofs.YtlendfhehhacpaaGreat
