/- A part. -/
import Derived.Test.YtlendfhehhacpaaGreatU10
import Derived.Test.YtlendfhehhacpaaGreatU07
import Derived.Test.YtlendfhehhacpaaGreatU08
set_option linter.unusedVariables false
set_option linter.unusedSimpArgs false
set_option maxRecDepth 100000
set_option maxHeartbeats 8000000
namespace Go.Proofs.YtlendfhehhacpaaGreat
open Go.RowKit Nib Tryz
theorem qt28 {P : Prop} (h : P := by
  clear hd
  go_enter func139, ntmps139
  go_wp2
  exact qV (.bool false) (by simp [results, results139, go_sem]) rfl
 ) : P := h
theorem mDigit_no (r d : Nat) (p : Pg) (key : Int) (w : World) (h : RdAt w r d p) (hv : p.verb = 0) (hd : isD p.n key = false) :
  qC 139 #[.pointer (some ⟨r, 1, none⟩), .int .u8 key] w (.bool false) := by
 obtain ⟨c0, c1, c2, c3, c4, c5, fz, lt⟩ := h.bg
 clear h
 rw [hv] at c3
 clear hv
 simp only [isD, decide_eq_false_iff_not] at hd
 have l1 : r < w.heap.size + 1 := by omega
 have l2 : r < w.heap.size + 1 + 1 := by omega
 by_cases h1 : key < 48
 ·exact qt28
 ·by_cases h2 : 57 < key
  ·exact qt28
  ·have h3 : key = 48 := by omega
   have h4 : p.n = 0 := by omega
   subst h3
   rw [h4] at c2
   exact qt28
theorem qt12 {P : Prop} (h : P := by
  go_enter func139, ntmps139
  go_wp2
  all_goals
   refine bodyPost_ret (v := .bool true) (by simp [results, results139, go_sem]) rfl ⟨rfl, ?_, ?_⟩
   ·repeat (with_reducible first | exact HS2.out | refine r_o ?_ _ | refine RdAt.alloc ?_ _ | refine RdAt.drewN ?_ _ | refine RdAt.drew ?_)
   ·repeat exact qU
 ) : P := h
theorem mDigit_yes (r d : Nat) (p : Pg) (key : Int) (w : World) (h : RdAt w r d p) (hv : p.verb = 0) (hn : p.n ≤ 99) (hd : isD p.n key = true) :
  Calls Tryz.prog 139 #[.pointer (some ⟨r, 1, none⟩), .int .u8 key] w fun e w' => e = .returned (.bool true) ∧ RdAt w' r d { p with n := nextN p.n key } ∧ Upd [r] w w' := by
 have HS := h.set_n (nextN p.n key)
 obtain ⟨c0, c1, c2, c3, c4, c5, fz, lt⟩ := h.bg
 have H := h
 clear h
 rw [hv] at c3
 clear hv
 simp only [isD, decide_eq_true_eq] at hd
 have l1 : r < w.heap.size + 1 := by omega
 have l2 : r < w.heap.size + 1 + 1 := by omega
 have h1 : ¬ key < 48 := by omega
 have h2 : ¬ 57 < key := by omega
 have hN : nextN p.n key = if 99 < p.n * 10 + (key - 48).toNat then 99 else p.n * 10 + (key - 48).toNat := rfl
 have h5 : ((key == 48) = false) ∨ ((key == 48) = true ∧ (((p.n : Nat) : Int) == 0) = false) := by
  by_cases e : key = 48
  ·right; exact ⟨by simp [e], by simp; omega⟩
  ·left; simp [e]
 by_cases h3 : 99 < (p.n : Int) * 10 + (key - 48)
 ·have HS2 : Hid (RdAt (w.setCell ⟨r, 2, none⟩ (.int .i64 99)) r d { p with n := nextN p.n key }) := by
   rw [hN, if_pos qo] at HS
   rw [hN, if_pos qo]
   exact HS
  generalize nextN p.n key = NN at *
  clear hN HS hd
  rcases h5 with h5 | ⟨h5, h6⟩
  ·exact qt12
  ·exact qt12
 ·have HS2 : Hid (RdAt (w.setCell ⟨r, 2, none⟩ (.int .i64 ((p.n : Int) * 10 + (key - 48)))) r d { p with n := nextN p.n key }) := by
   rw [hN, if_neg qo] at HS
   rw [hN, if_neg qo]
   have e : ((p.n * 10 + (key - 48).toNat : Nat) : Int) = (p.n : Int) * 10 + (key - 48) := by omega
   rw [e] at HS
   exact HS
  generalize nextN p.n key = NN at *
  clear hN HS hd
  rcases h5 with h5 | ⟨h5, h6⟩
  ·exact qt12
  ·exact qt12
def cnt (p : Pg) : Nat := if p.n = 0 ∨ p.behind = 0 then p.n + p.behind else min (p.n * p.behind) 99
theorem mCount (r d : Nat) (p : Pg) (w : World) (h : RdAt w r d p) (hn : p.n ≤ 99) (hb : p.behind ≤ 99) :
  qC 200 #[.pointer (some ⟨r, 1, none⟩)] w (.int .i64 (cnt p)) := by
 obtain ⟨c0, c1, c2, c3, c4, c5, fz, lt⟩ := h.bg
 clear h
 have HC : Hid (cnt p = if p.n = 0 ∨ p.behind = 0 then p.n + p.behind else min (p.n * p.behind) 99) := rfl
 generalize cnt p = y at *
 by_cases h1 : p.n = 0
 ·have HD : Hid ((y : Int) = (p.behind : Int)) := by rw [Hid, HC.out, if_pos (Or.inl h1)]; omega
  rw [h1] at c2
  have hw : IntKind.i64.wrap ((p.behind : Nat) : Int) = ((p.behind : Nat) : Int) := by rw [IntKind.wrap_i64]; omega
  clear HC h1
  go_enter func200, ntmps200
  go_wp2_with fail
  go_region_held3 (fun ww => ww.cell? ⟨r, 2, none⟩ = some (.int .i64 0) ∧ ww.cell? ⟨r, 4, none⟩ = some (.int .i64 (p.behind : Nat))) (exact qK) (fail)
  go_wp2
  all_goals
   exact qV (.int .i64 (p.behind : Nat)) (by simp [results, results200, go_sem]) (by rw [HD.out])
 ·by_cases h2 : p.behind = 0
  ·have HD : Hid ((y : Int) = (p.n : Int)) := by rw [Hid, HC.out, if_pos (Or.inr h2)]; omega
   have h1' : (((p.n : Nat) : Int) == 0) = false := by simp; omega
   rw [h2] at c4
   have hw : IntKind.i64.wrap ((p.n : Nat) : Int) = ((p.n : Nat) : Int) := by rw [IntKind.wrap_i64]; omega
   clear HC h1 h2
   go_enter func200, ntmps200
   go_wp2_with fail
   go_region_held3 (fun ww => ww.cell? ⟨r, 2, none⟩ = some (.int .i64 (p.n : Nat)) ∧ ww.cell? ⟨r, 4, none⟩ = some (.int .i64 0)) (exact qK) (fail)
   go_wp2
   all_goals
    exact qV (.int .i64 (p.n : Nat)) (by simp [results, results200, go_sem]) (by rw [HD.out])
  ·have hm : p.n * p.behind ≤ 99 * 99 := Nat.mul_le_mul hn hb
   have hm2 : ((p.n * p.behind : Nat) : Int) = (p.n : Int) * (p.behind : Int) := by simp
   have h1' : (((p.n : Nat) : Int) == 0) = false := by simp; omega
   have h2' : (((p.behind : Nat) : Int) == 0) = false := by simp; omega
   by_cases h3 : 99 < p.n * p.behind
   ·have HD : Hid ((y : Int) = 99) := by rw [Hid, HC.out, if_neg qo]; omega
    have h3' : 99 < (p.n : Int) * (p.behind : Int) := by omega
    have hw : IntKind.i64.wrap ((p.n : Int) * (p.behind : Int)) = (p.n : Int) * (p.behind : Int) := by rw [IntKind.wrap_i64]; omega
    clear HC h1 h2 hm hm2 h3
    go_enter func200, ntmps200
    go_wp2_with fail
    go_region_held3 (fun ww => ww.cell? ⟨r, 2, none⟩ = some (.int .i64 (p.n : Nat)) ∧ ww.cell? ⟨r, 4, none⟩ = some (.int .i64 (p.behind : Nat))) (exact qK) (fail)
    go_wp2
    all_goals
     exact qV (.int .i64 99) (by simp [results, results200, go_sem]) (by rw [HD.out])
   ·have HD : Hid ((y : Int) = (p.n : Int) * (p.behind : Int)) := by rw [Hid, HC.out, if_neg qo]; omega
    have h3' : ¬ 99 < (p.n : Int) * (p.behind : Int) := by omega
    have hw : IntKind.i64.wrap ((p.n : Int) * (p.behind : Int)) = (p.n : Int) * (p.behind : Int) := by rw [IntKind.wrap_i64]; omega
    clear HC h1 h2 hm hm2 h3
    go_enter func200, ntmps200
    go_wp2_with fail
    go_region_held3 (fun ww => ww.cell? ⟨r, 2, none⟩ = some (.int .i64 (p.n : Nat)) ∧ ww.cell? ⟨r, 4, none⟩ = some (.int .i64 (p.behind : Nat))) (exact qK) (fail)
    go_wp2
    all_goals
     exact qV (.int .i64 ((p.n : Int) * (p.behind : Int))) (by simp [results, results200, go_sem]) (by rw [HD.out])
theorem mToNormal (r d : Nat) (p : Pg) (w : World) (h : RdAt w r d p) :
  Calls Tryz.prog 136 #[.pointer (some ⟨d, 0, none⟩)] w fun e w' => e = .returned (.tuple #[]) ∧ RdAt w' r d { p with mode := 0, anchor := 0 } ∧ Upd [d] w w' := by
 have HF := (h.set_mode 0).set_anchor 0
 rw [show ((0 : Nat) : Int) = 0 from rfl] at HF
 obtain ⟨c0, c1, c2, c3, c4, c5, c6, c7, c8, c9, fz, lt⟩ := h.dk
 clear h c0 c1 c4 c5 c6 c7 c8 c9
 go_enter func136, ntmps136
 exact qt38
theorem mMark (r d : Nat) (p : Pg) (mode : Int) (w : World) (h : RdAt w r d p) :
  Calls Tryz.prog 150 #[.pointer (some ⟨d, 0, none⟩), .int .i64 mode] w fun e w' => e = .returned (.tuple #[]) ∧ RdAt w' r d { p with mode := mode, anchor := p.pl } ∧ Upd [d] w w' := by
 have HF := (h.set_mode mode).set_anchor p.pl
 obtain ⟨c0, c1, c2, c3, c4, c5, c6, c7, c8, c9, fz, lt⟩ := h.dk
 clear h c0 c4 c5 c6 c7 c8 c9
 go_enter func150, ntmps150
 exact qt38
theorem mMoveTo (r d : Nat) (p : Pg) (place : Int) (k : Nat) (w : World) (h : RdAt w r d p) (hs : p.t.size ≤ 1000) (e : place = k) (hk : k ≤ p.t.size) :
  Calls Tryz.prog 179 #[.pointer (some ⟨d, 0, none⟩), .int .i64 place] w fun e w' => e = .returned (.tuple #[]) ∧ RdAt w' r d { p with pl := clm p.t k } ∧ Upd [d] w w' := by
 subst e
 have HL : qH 195 #[.string p.t, .int .i64 k] (.agg #[.int .i64 (beg p.t k), .int .i64 (fin p.t k)]) := fun ww => tLine_any p.t k k ww hs rfl hk
 have hb1 := beg_le p.t k
 have hf1 := fin_le hk
 have HT : qH 202 #[.agg #[.int .i64 (beg p.t k), .int .i64 (fin p.t k)]] (.int .i64 (lst p.t k)) := by
  intro ww
  have := tLast_any (beg p.t k) (fin p.t k) ww qo
  refine this.mono ?_
  rintro e w' ⟨rfl, hw⟩
  refine ⟨ret_int ?_, hw⟩
  unfold lst
  split <;> omega
 have H := h
 have HS : Hid (∀ ww, RdAt ww r d p → RdAt (ww.setCell ⟨d, 1, none⟩ (.int .i64 (clm p.t k : Nat))) r d { p with pl := clm p.t k }) := fun ww hh => hh.set_pl _
 have hcl : clm p.t k = if lst p.t k < k then lst p.t k else k := rfl
 obtain ⟨c0, c1, c2, c3, c4, c5, c6, c7, c8, c9, fz, lt⟩ := h.dk
 clear c2 c3 c4 c5 c6 c7 c8 c9 h
 generalize beg p.t k = B at *
 generalize fin p.t k = F at *
 generalize lst p.t k = L at *
 generalize hp2 : ({ p with pl := clm p.t k } : Pg) = p2 at *
 clear hp2
 generalize clm p.t k = C at *
 have HC : Hid (C = if L < k then L else k) := hcl
 clear hcl
 go_enter func179, ntmps179
 go_wp2_with fail
 refine (HL.out _).mono ?_
 rintro e w1 ⟨rfl, h1⟩
 obtain ⟨hc1, hf1, hz1⟩ := qb h1
 try simp at hz1
 go_wp2_with fail
 refine (HT.out _).mono ?_
 rintro e w2 ⟨rfl, h2⟩
 obtain ⟨hc2, hf2, hz2⟩ := qb h2
 try simp at hz2
 have H2 := (H.below h1).below h2
 have d0 := H2.dk.c0
 have d1 := H2.dk.c1
 have dz := H2.dk.fz
 have dl := H2.dk.lt
 have HS2 := HS.out _ H2
 clear hc1 hc2 hf1 hf2 H2 c0 c1 fz
 by_cases hlk : L < k
 ·rw [HC.out, if_pos hlk] at HS2
  exact qt38
 ·rw [HC.out, if_neg hlk] at HS2
  exact qt38
theorem tOf_any (s : ByteArray) (a b : Int) (i j : Nat) (w : World) (hs : s.size ≤ 1000) (ea : a = i) (eb : b = j) (h : i ≤ j) (hj : j ≤ s.size) :
  qC 87 #[.string s, .agg #[.int .i64 (a), .int .i64 (b)]] w (.string (s.extract i j)) := by
 subst ea eb
 go_enter func87, ntmps87
 go_wp2
 refine bodyPost_ret (v := .string (s.extract i j)) (by simp [results, results87, go_sem]) rfl ⟨rfl, ?_⟩
 exact qB
theorem tWith_any (s t : ByteArray) (a b : Int) (i j : Nat) (w : World) (hs : s.size ≤ 1000) (ht : t.size ≤ 1000000) (ea : a = i) (eb : b = j) (h : i ≤ j) (hj : j ≤ s.size) :
  qC 192 #[.string s, .agg #[.int .i64 (a), .int .i64 (b)], .string t] w (.string (s.extract 0 i ++ t ++ s.extract j s.size)) := by
 subst ea eb
 have f1 : (0 : Int) ≤ i := by omega
 have f2 : (0 : Int) ≤ j := by omega
 have f3 : (i : Int) ≤ s.size := by omega
 have f4 : (j : Int) ≤ s.size := by omega
 have f5 : ¬ 9223372036854775807 < min i s.size + t.size := by omega
 have f6 : ¬ 9223372036854775807 < min i s.size + t.size + (s.size - j) := by omega
 go_enter func192, ntmps192
 go_wp2
 go_region_held3 (fun ww => ww.cell? ⟨w.heap.size, 0, none⟩ = some (.int .i64 i) ∧ ww.cell? ⟨w.heap.size, 1, none⟩ = some (.int .i64 j)) ((refine ⟨?_, ?_⟩ <;> go_simp)) (fail)
 go_wp2
 refine bodyPost_ret (v := .string (s.extract 0 i ++ t ++ s.extract j s.size)) (by simp [results, results192, go_sem]) rfl ⟨rfl, ?_⟩
 exact qB
theorem tNothing_any (a b : Int) (l : Bool) (w : World) :
  qC 172 #[.agg #[.int .i64 a, .int .i64 b, .bool l]] w (.bool (a == b && !l)) := by
 go_enter func172, ntmps172
 go_wp2_with fail
 refine (tIsEmpty_any a b _).mono ?_
 rintro e w1 ⟨rfl, h1⟩
 obtain ⟨hc1, hf1, hz1⟩ := qb h1
 try simp at hz1
 go_wp2
 ·refine bodyPost_ret (v := .bool (!l)) (by simp [results, results172, go_sem]) rfl ⟨by rename_i hh; simp [hh], ?_⟩
  exact qB
 ·refine bodyPost_ret (v := .bool false) (by simp [results, results172, go_sem]) rfl ⟨by rename_i hh; simp [hh], ?_⟩
  exact qB
theorem tLines_any (s : ByteArray) (p q : Int) (k m : Nat) (w : World) (hs : s.size ≤ 1000) (ep : p = k) (eq : q = m) (hk : k ≤ s.size) (hm : m ≤ s.size) :
  qC 182 #[.string s, .int .i64 p, .int .i64 q] w (.agg #[.int .i64 (min (beg s k) (beg s m)), .int .i64 (max (fin s k) (fin s m)), .bool true]) := by
 generalize hV : min (beg s k : Int) (beg s m) = V
 generalize hU : max (fin s k : Int) (fin s m) = U
 have H1 := fun ww => tLine_any s p k ww hs ep hk
 have H2 := fun ww => tLine_any s q m ww hs eq hm
 have H3 := fun ww => tJoin_any (beg s k) (fin s k) (beg s m) (fin s m) ww
 rw [hV, hU] at H3
 generalize (beg s k : Int) = A at *
 generalize (fin s k : Int) = B at *
 generalize (beg s m : Int) = C at *
 generalize (fin s m : Int) = D at *
 have G1 : qH 195 #[.string s, .int .i64 p] (.agg #[.int .i64 (A), .int .i64 (B)]) := H1
 have G2 : qH 195 #[.string s, .int .i64 q] (.agg #[.int .i64 (C), .int .i64 (D)]) := H2
 have G3 : qH 196 #[.agg #[.int .i64 (A), .int .i64 (B)], .agg #[.int .i64 (C), .int .i64 (D)]] (.agg #[.int .i64 (V), .int .i64 (U)]) := H3
 clear H1 H2 H3 hV hU ep eq hk hm hs
 go_enter func182, ntmps182
 go_wp2_with fail
 refine (G1.out _).mono ?_
 rintro e w1 ⟨rfl, h1⟩
 obtain ⟨hc1, hf1, hz1⟩ := qb h1
 try simp at hz1
 go_wp2_with fail
 refine (G2.out _).mono ?_
 rintro e w2 ⟨rfl, h2⟩
 obtain ⟨hc2, hf2, hz2⟩ := qb h2
 try simp at hz2
 go_wp2_with fail
 refine (G3.out _).mono ?_
 rintro e w3 ⟨rfl, h3⟩
 obtain ⟨hc3, hf3, hz3⟩ := qb h3
 try simp at hz3
 have l1 : w.heap.size < w1.heap.size := by omega
 have l2 : w.heap.size < w2.heap.size := by omega
 have l3 : w.heap.size < w3.heap.size := by omega
 have z0 := fun o => (hf3 w.heap.size o l2).trans ((hf2 w.heap.size o l1).trans (hf1 w.heap.size o qi))
 simp at z0
 have c0 := fun o => (hc3 w.heap.size o l2).trans ((hc2 w.heap.size o l1).trans (hc1 w.heap.size o qi))
 have c1 := c0 0
 have c2 := c0 1
 have c3 := c0 2
 simp at c1 c2 c3
 clear hc1 hc2 hc3 hf1 hf2 hf3 c0
 go_wp2
 refine bodyPost_ret (v := .agg #[.int .i64 V, .int .i64 U, .bool true]) (by simp [results, results182, go_sem, c1, c2, c3, z0, l3]) rfl ⟨rfl, ?_⟩
 exact qB
