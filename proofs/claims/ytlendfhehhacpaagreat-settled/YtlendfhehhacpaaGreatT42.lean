/- A part. -/
import Derived.Test.YtlendfhehhacpaaGreatT39
import Derived.Shelf.Strings.PiecesUse
import Derived.Test.YtlendfhehhacpaaGreatT40
set_option linter.unusedVariables false
set_option linter.unusedSimpArgs false
set_option maxRecDepth 100000
set_option maxHeartbeats 8000000
namespace Go.Proofs.YtlendfhehhacpaaGreat
open Go.RowKit Nib Tryz
structure StrRow (w : World) (b : Nat) (l : List ByteArray) : Prop where
 c : ∀ (j : Nat) (h : j < l.length), w.cell? ⟨b, j, none⟩ = some (.string l[j])
 fz : ∀ j : Nat, w.frozen? ⟨b, j, none⟩ = false
 lt : b < w.heap.size
theorem StrRow.below {w w' : World} {b : Nat} {l : List ByteArray} (h : StrRow w b l) (hb : Below w.heap.size w w') : StrRow w' b l :=
 ⟨fun j hj => (hb.cell (p := ⟨b, j, none⟩) h.lt).trans (h.c j hj), fun j => (hb.frozen (p := ⟨b, j, none⟩) h.lt).trans (h.fz j), Nat.lt_of_lt_of_le h.lt hb.size⟩
theorem StrRow.new (w : World) (l : List ByteArray) (T : TypeId) : StrRow (w.alloc (.cells (l.map Value.string).toArray T)) w.heap.size l := by
 refine ⟨fun j hj => ?_, fun j => ?_, by simp⟩
 ·have := Lib.pieces_cell w l T j l[j] (List.getElem?_eq_getElem hj)
  rw [Nat.zero_add] at this
  exact this
 ·exact Lib.pieces_frozen w _ T j
def jstp (J x : ByteArray) : ByteArray := (if J.size = 0 ∨ (trl x).size = 0 then J else J ++ ⟨#[32]⟩) ++ trl x
def jAcc : List ByteArray → ByteArray × Nat → ByteArray × Nat
 | [], a => a
 | x :: r, (J, _) => jAcc r (jstp J x, J.size)
theorem jstp_size (J x : ByteArray) : (jstp J x).size ≤ J.size + x.size + 1 ∧ J.size ≤ (jstp J x).size := by
 unfold jstp
 have := trl_size x
 have h1 : (⟨#[32]⟩ : ByteArray).size = 1 := rfl
 split
 ·rw [ByteArray.size_append]; omega
 ·rw [ByteArray.size_append, ByteArray.size_append]; omega
theorem jAcc_size : ∀ (l : List ByteArray) (J : ByteArray) (q : Nat), q ≤ J.size → (jAcc l (J, q)).2 ≤ (jAcc l (J, q)).1.size ∧ (jAcc l (J, q)).1.size ≤ J.size + (l.map ByteArray.size).sum + l.length := by
 intro l
 induction l with
 | nil => intro J q h; simp [jAcc]; exact h
 | cons x r ih =>
  intro J q h
  have h1 := jstp_size J x
  have := ih (jstp J x) J.size h1.2
  simp only [jAcc, List.map_cons, List.sum_cons, List.length_cons]
  omega
theorem qt71 {P : Prop} (h : P := by
  go_wp2_with fail
  refine (HTk.out _).mono ?_
  rintro e w1 ⟨rfl, h1⟩
  obtain ⟨hc1, hf1, hz1⟩ := qb h1
  try simp at hz1
  have hb1 := hb.below h1
  clear hb hc hc1 hf1
  go_wp2
  go_round
  case rel =>
   refine ⟨k + 1, _, J.size, by omega, by go_num, rfl, rfl, by omega, HA, hb1, ?_⟩
   repeat exact qB
  case measure => simp [intOf] <;> omega
 ) : P := h
theorem eJoinedLines (x : ByteArray) (tl : List ByteArray) (b : Nat) (w : World) (R : ByteArray × Nat) (hR : jAcc tl (x, 0) = R) (hz : x.size + (tl.map ByteArray.size).sum + tl.length ≤ 3000) (hb : StrRow w b (x :: tl)) :
  qC 197 #[.slice (some ⟨b, 0, none⟩) (tl.length + 1) (tl.length + 1)] w (.tuple #[.string R.1, .int .i64 R.2]) := by
 have HR : Hid (jAcc tl (x, 0) = R) := hR
 have c0 := hb.c 0 qi
 simp only [List.getElem_cons_zero] at c0
 have hlt := hb.lt
 have hT : ∀ y : ByteArray, qH 230 #[.string y, .string ⟨#[32, 9]⟩] (.string (trl y)) := fun y ww => sTrimL2 y ww
 have hn : tl.length ≤ 3000 := by omega
 clear hR
 by_cases htl : tl = []
 ·subst htl
  have hA2 : (x, 0) = R := HR.out
  subst hA2
  go_enter func197, ntmps197
  go_wp2_with fail
  refine wp_loop_rounds 1 ?_
  rw [rounds_succ]
  go_wp2
  go_ret2
  refine ⟨rfl, ?_⟩
  repeat exact qB
 have htl2 : 0 < tl.length := by
  cases tl with
  | nil => exact absurd rfl htl
  | cons a l => simp
 have htl3 : ¬ tl.length = 0 := by omega
 have htl4 : ((0 : Nat) : Int) < ((tl.length : Nat) : Int) := by omega
 clear htl
 go_enter func197, ntmps197
 go_wp2_with fail
 go_loopw [2, 3, 13] (fun j q i wr => ∃ (k : Nat) (J : ByteArray) (Q : Nat), k ≤ tl.length ∧ i = .int .i64 k ∧ j = .string J ∧ q = .int .i64 Q ∧ J.size + ((tl.drop k).map ByteArray.size).sum + (tl.drop k).length ≤ 3000 ∧ Hid (jAcc (tl.drop k) (J, Q) = R) ∧ StrRow wr b (x :: tl) ∧ Below w.heap.size w wr) (fun _ _ i _ => tl.length - (intOf i).toNat)
 case atStart => exact ⟨0, x, 0, Nat.zero_le _, rfl, rfl, rfl, by simpa using hz, by simpa using HR, hb, Below.refl _ _⟩
 case round =>
  clear HR hb c0 hlt hz
  obtain ⟨k, J, Q, hk, rfl, rfl, rfl, hs, hA, hb, hB⟩ := hrel
  have hbl := hb.lt
  have zB := hB.size
  by_cases hkl : k < tl.length
  ·have hc : wr.cell? ⟨b, 1 + k, none⟩ = some (.string (tl[k]'hkl)) := by
    have := hb.c (k + 1) qs
    simp only [List.getElem_cons_succ] at this
    rw [show 1 + k = k + 1 by omega]
    exact this
   have HTk := hT (tl[k]'hkl)
   have hd : tl.drop k = tl[k]'hkl :: tl.drop (k + 1) := List.drop_eq_getElem_cons hkl
   rw [hd] at hA hs
   simp only [List.map_cons, List.sum_cons, List.length_cons] at hs
   have hj1 := jstp_size J (tl[k]'hkl)
   have ht1 := trl_size (tl[k]'hkl)
   have HA : Hid (jAcc (tl.drop (k + 1)) (jstp J (tl[k]'hkl), J.size) = R) := by
    have := hA.out
    simp only [jAcc] at this
    exact this
   clear hA hd
   have i1 : ((k : Nat) : Int) < ((tl.length : Nat) : Int) := by omega
   generalize tl[k]'hkl = y at *
   have hs2 : J.size + y.size + 1 + ((tl.drop (k + 1)).map ByteArray.size).sum + (tl.drop (k + 1)).length ≤ 3000 := by omega
   clear hs
   have fs1 : ¬ 9223372036854775807 < J.size + (trl y).size := by omega
   have fs2 : ¬ 9223372036854775807 < J.size + 1 := by omega
   have fs3 : ¬ 9223372036854775807 < J.size + 1 + (trl y).size := by omega
   by_cases hJ : J.size = 0
   ·have eJ : J = ⟨#[]⟩ := ByteArray.ext (Array.eq_empty_of_size_eq_zero hJ)
    have ej : jstp J y = J ++ trl y := by unfold jstp; rw [if_pos (Or.inl hJ)]
    rw [ej] at HA hj1
    generalize trl y = T at *
    subst eJ
    have hJ3 : ((⟨#[]⟩ : ByteArray) ++ T).size ≤ (⟨#[]⟩ : ByteArray).size + y.size + 1 := hj1.1
    go_wp2_with fail
    refine (HTk.out _).mono ?_
    rintro e w1 ⟨rfl, h1⟩
    obtain ⟨hc1, hf1, hz1⟩ := qb h1
    try simp at hz1
    have hb1 := hb.below h1
    clear hb hc hc1 hf1
    go_wp2
    go_round
    case rel =>
     refine ⟨k + 1, _, 0, by omega, by go_num, rfl, rfl, by omega, HA, hb1, ?_⟩
     repeat exact qB
    case measure => simp [intOf] <;> omega
   ·have hJe := ne_empty hJ
    have hJe2 : ¬ J.toList = [] := by intro e; rw [e] at hJe; cases hJe
    by_cases hT0 : (trl y).size = 0
    ·have ej : jstp J y = J ++ trl y := by unfold jstp; rw [if_pos (Or.inr hT0)]
     have eT : trl y = ⟨#[]⟩ := ByteArray.ext (Array.eq_empty_of_size_eq_zero hT0)
     rw [ej, eT] at HA hj1
     rw [eT] at HTk
     have fs4 : ¬ 9223372036854775807 < J.size := by omega
     clear ej eT hT0 ht1 fs1 fs3
     exact qt71
    ·have ej : jstp J y = J ++ ⟨#[32]⟩ ++ trl y := by unfold jstp; rw [if_neg qo]
     have hTe := ne_empty hT0
     have hTe2 : ¬ (trl y).toList = [] := by intro e; rw [e] at hTe; cases hTe
     rw [ej] at HA hj1
     generalize trl y = T at *
     clear ej
     exact qt71
  ·have hns : ¬ ((k : Nat) : Int) < ((tl.length : Nat) : Int) := by omega
   have ek : tl.drop k = [] := List.drop_eq_nil_of_le qo
   rw [ek] at hA
   have hA2 : (J, Q) = R := hA.out
   subst hA2
   go_wp2
   go_ret2
   exact ⟨rfl, hB⟩
theorem att_mono (s : ByteArray) (m : Nat) : ∀ n, att s m ≤ att s (m + n) := by
 intro n
 induction n with
 | zero => exact Nat.le_refl _
 | succ n ih =>
  have h : att s (m + (n + 1)) = fin s (att s (m + n)) + 1 := rfl
  have := fin_ge s (att s (m + n))
  omega
theorem eJoined (s : ByteArray) (p N : Nat) (hs : s.size ≤ 1000) (hp : p ≤ s.size) (hN2 : N ≤ 99) :
  GivesE 158 #[.agg #[.string s, .int .i64 p, .int .i64 N]] := by
 have hm := lin_lt hp
 have hbe := beg_eq hp
 have hfe := fin_eq hp
 have hbl := beg_le s p
 have hfl := fin_le hp
 have hfg := fin_ge s p
 have HL : qH 195 #[.string s, .int .i64 p] (.agg #[.int .i64 (beg s p), .int .i64 (fin s p)]) := fun ww => tLine_any s p p ww hs rfl hp
 obtain ⟨n, hn, hn2⟩ : ∃ n : Nat, (n : Int) = max (N : Int) 2 - 1 ∧ n ≤ 98 := ⟨max N 2 - 1, by omega, by omega⟩
 have hk : min (lin s p + n) (lns s - 1) < lns s := by omega
 have hA2 := (att_in hk).1
 have hE2 := fin_le hA2
 have hAE := fin_ge s (att s (min (lin s p + n) (lns s - 1)))
 have hmo : beg s p ≤ att s (min (lin s p + n) (lns s - 1)) := by
  rw [hbe]
  have := att_mono s (lin s p) (min (lin s p + n) (lns s - 1) - lin s p)
  rw [show lin s p + (min (lin s p + n) (lns s - 1) - lin s p) = min (lin s p + n) (lns s - 1) by omega] at this
  exact this
 have HFu : qH 180 #[.string s, .agg #[.int .i64 (beg s p), .int .i64 (fin s p)], .int .i64 (max (N : Int) 2 - 1), .int .i64 1] (.tuple #[.agg #[.int .i64 (att s (min (lin s p + n) (lns s - 1))), .int .i64 (fin s (att s (min (lin s p + n) (lns s - 1))))], .int .i64 ((min n (lns s - 1 - lin s p) : Nat) : Int)]) := fun ww => tFurther_down s _ _ _ 1 (lin s p) n ww hs hm (by rw [hbe]) (by rw [hfe]) hn.symm rfl qo
 generalize att s (min (lin s p + n) (lns s - 1)) = A2 at *
 generalize fin s A2 = E2 at *
 generalize min n (lns s - 1 - lin s p) = BL at *
 have HJ : qH 196 #[.agg #[.int .i64 (beg s p), .int .i64 (fin s p)], .agg #[.int .i64 (A2), .int .i64 (E2)]] (.agg #[.int .i64 (((min (beg s p) A2 : Nat) : Int)), .int .i64 (((max (fin s p) E2 : Nat) : Int))]) := fun ww => tJoin_nat _ _ _ _ ww
 have hi : min (beg s p) A2 = beg s p := by omega
 have hj : max (fin s p) E2 ≤ s.size := by omega
 have hij : beg s p ≤ max (fin s p) E2 := by omega
 rw [hi] at HJ
 generalize max (fin s p) E2 = J at *
 generalize beg s p = LB at *
 generalize fin s p = LE at *
 clear hi hm hbe hfe hbl hfg hA2 hE2 hAE hmo hk
 have hwr : IntKind.i64.wrap (max (N : Int) 2 - 1) = max (N : Int) 2 - 1 := by rw [IntKind.wrap_i64]; omega
 by_cases hB0 : BL = 0
 ·subst hB0
  refine ⟨⟨#[]⟩, 0, false, (fun h => by cases h), fun w => ?_⟩
  clear hn hn2
  generalize hMX : max (N : Int) 2 = MX at *
  go_enter func158, ntmps158
  have G : Spo (w.alloc (.cells #[.string s, .int .i64 p, .int .i64 N] 192)) w.heap.size s p N := Spo.new _ _ _ _ _
  go_wp2_with fail
  refine (HL.out _).mono ?_
  rintro r1 w1 ⟨rfl, h1⟩
  obtain ⟨hc1, hf1, hz1⟩ := qb h1
  (try simp at hz1)
  have G1 : Spo w1 (w.heap.size) (s) (p) (N) := qSp
  have ⟨G1_0, G1_1, G1_2, G1_z, G1_l⟩ := G1
  clear hc1 hf1
  go_wp2_with fail
  refine (HFu.out _).mono ?_
  exact qt68
 ·have hB1 : ((BL : Nat) : Int) ≠ 0 := by omega
  have hB2 : (((BL : Nat) : Int) == 0) = false := by simp; omega
  have HO : qH 87 #[.string s, .agg #[.int .i64 (LB), .int .i64 (J)]] (.string (s.extract LB J)) := fun ww => tOf_any s _ _ _ _ ww hs rfl rfl hij hj
  have hos : (s.extract LB J).size ≤ J - LB := by rw [ByteArray.size_extract]; omega
  have hos2 : (s.extract LB J).size = J - LB := by rw [ByteArray.size_extract]; omega
  have hsum := spl_sum (s.extract LB J)
  have hpos := spl_pos (s.extract LB J)
  have HSp : Hid (∀ ww, Calls Tryz.prog 198 #[.string (s.extract LB J), .string ⟨#[10]⟩] ww fun e w' => e = .returned (.slice (some ⟨ww.heap.size, 0, none⟩) (spl (s.extract LB J)).length (spl (s.extract LB J)).length) ∧ w' = ww.alloc (.cells ((spl (s.extract LB J)).map Value.string).toArray 9)) := fun ww => sSplit _ ww qo
  generalize s.extract LB J = O at *
  obtain ⟨x, tl, hxt⟩ : ∃ x tl, spl O = x :: tl := by
   cases h : spl O with
   | nil => rw [h] at hpos; simp at hpos
   | cons a l => exact ⟨a, l, rfl⟩
  rw [hxt] at HSp hsum
  simp only [List.map_cons, List.sum_cons, List.length_cons] at HSp hsum
  have hjz := jAcc_size tl x 0 (Nat.zero_le _)
  generalize hR : jAcc tl (x, 0) = R at *
  have HJL : Hid (∀ ww b, StrRow ww b (x :: tl) → qC 197 #[.slice (some ⟨b, 0, none⟩) (tl.length + 1) (tl.length + 1)] ww (.tuple #[.string R.1, .int .i64 R.2])) := fun ww b hb => eJoinedLines x tl b ww R hR qo hb
  clear hR
  obtain ⟨RJ, RQ⟩ := R
  simp only at hjz HJL
  have HW : qH 192 #[.string s, .agg #[.int .i64 (LB), .int .i64 (J)], .string RJ] (.string (wth s RJ LB J)) := fun ww => tWith_any s _ LB J LB J ww hs qo rfl rfl hij hj
  have hX := wth_size (s := s) (b := RJ) hij hj
  refine ⟨wth s RJ LB J, LB + RQ, true, fun _ => by omega, fun w => ?_⟩
  have hw3 : IntKind.i64.wrap ((LB : Int) + RQ) = (LB : Int) + RQ := by rw [IntKind.wrap_i64]; omega
  rw [show ((LB + RQ : Nat) : Int) = (LB : Int) + RQ by omega]
  generalize wth s RJ LB J = X at *
  have HSR : Hid (∀ ww : World, StrRow (ww.alloc (.cells (Value.string x :: tl.map Value.string).toArray 9)) ww.heap.size (x :: tl)) := fun ww => StrRow.new ww (x :: tl) 9
  clear hX hjz hsum hpos hos hos2 hn hn2
  generalize hMX : max (N : Int) 2 = MX at *
  go_enter func158, ntmps158
  have G : Spo (w.alloc (.cells #[.string s, .int .i64 p, .int .i64 N] 192)) w.heap.size s p N := Spo.new _ _ _ _ _
  go_wp2_with fail
  refine (HL.out _).mono ?_
  rintro r1 w1 ⟨rfl, h1⟩
  obtain ⟨hc1, hf1, hz1⟩ := qb h1
  (try simp at hz1)
  have G1 : Spo w1 (w.heap.size) (s) (p) (N) := qSp
  have ⟨G1_0, G1_1, G1_2, G1_z, G1_l⟩ := G1
  clear hc1 hf1
  have L1 : Two (w1.alloc (.cells #[.int .i64 LB, .int .i64 LE] 128)) w1.heap.size LB LE := Two.new _ _ _ _
  have G2 : Spo (w1.alloc (.cells #[.int .i64 LB, .int .i64 LE] 128)) w.heap.size s p N := G1.alloc _
  clear G
  go_wp2_with fail
  refine (HFu.out _).mono ?_
  rintro r2 w2 ⟨rfl, h2⟩
  obtain ⟨hc2, hf2, hz2⟩ := qb h2
  (try simp at hz2)
  have G22 : Spo w2 (w.heap.size) (s) (p) (N) := qSp
  have ⟨G22_0, G22_1, G22_2, G22_z, G22_l⟩ := G22
  have L12 : Two w2 (w1.heap.size) (LB) (LE) := qTw
  have ⟨L12_0, L12_1, L12_z, L12_l⟩ := L12
  clear hc2 hf2
  have L2 : Two (w2.alloc (.cells #[.int .i64 A2, .int .i64 E2] 128)) w2.heap.size A2 E2 := Two.new _ _ _ _
  have G3 : Spo (w2.alloc (.cells #[.int .i64 A2, .int .i64 E2] 128)) w.heap.size s p N := G22.alloc _
  have L3 : Two (w2.alloc (.cells #[.int .i64 A2, .int .i64 E2] 128)) w1.heap.size LB LE := L12.alloc _
  clear L1
  go_wp2_with fail
  refine (HJ.out _).mono ?_
  rintro r3 w3 ⟨rfl, h3⟩
  obtain ⟨hc3, hf3, hz3⟩ := qb h3
  (try simp at hz3)
  have G33 : Spo w3 (w.heap.size) (s) (p) (N) := qSp
  have ⟨G33_0, G33_1, G33_2, G33_z, G33_l⟩ := G33
  have L33 : Two w3 (w1.heap.size) (LB) (LE) := qTw
  have ⟨L33_0, L33_1, L33_z, L33_l⟩ := L33
  have L23 : Two w3 (w2.heap.size) (A2) (E2) := qTw
  have ⟨L23_0, L23_1, L23_z, L23_l⟩ := L23
  clear hc3 hf3
  have L4 : Two (w3.alloc (.cells #[.int .i64 LB, .int .i64 J] 128)) w3.heap.size LB J := Two.new _ _ _ _
  have G4 : Spo (w3.alloc (.cells #[.int .i64 LB, .int .i64 J] 128)) w.heap.size s p N := G33.alloc _
  have L5 : Two (w3.alloc (.cells #[.int .i64 LB, .int .i64 J] 128)) w1.heap.size LB LE := L33.alloc _
  go_wp2_with fail
  refine (HO.out _).mono ?_
  rintro r4 w4 ⟨rfl, h4⟩
  obtain ⟨hc4, hf4, hz4⟩ := qb h4
  (try simp at hz4)
  have G44 : Spo w4 (w.heap.size) (s) (p) (N) := qSp
  have ⟨G44_0, G44_1, G44_2, G44_z, G44_l⟩ := G44
  have L54 : Two w4 (w1.heap.size) (LB) (LE) := qTw
  have ⟨L54_0, L54_1, L54_z, L54_l⟩ := L54
  have L44 : Two w4 (w3.heap.size) (LB) (J) := qTw
  have ⟨L44_0, L44_1, L44_z, L44_l⟩ := L44
  clear hc4 hf4
  go_wp2_with fail
  refine (HSp.out _).mono ?_
  rintro e w5 ⟨rfl, rfl⟩
  have S5 := HSR.out w4
  have G5 : Spo (w4.alloc (.cells (Value.string x :: tl.map Value.string).toArray 9)) w.heap.size s p N := G44.alloc _
  have L6 : Two (w4.alloc (.cells (Value.string x :: tl.map Value.string).toArray 9)) w1.heap.size LB LE := L54.alloc _
  have L7 : Two (w4.alloc (.cells (Value.string x :: tl.map Value.string).toArray 9)) w3.heap.size LB J := L44.alloc _
  go_wp2_with fail
  refine (HJL.out _ _ S5).mono ?_
  rintro e w6 ⟨rfl, h6⟩
  have G6 := G5.below h6
  have L8 := L6.below h6
  have L9 := L7.below h6
  have U6 : Below w.heap.size w w6 := by
   repeat exact qB
  have z1 := G6.c0; have z2 := L8.c0; have z3 := L9.c0; have z4 := L9.c1
  have z5 := G6.lt; have z6 := L8.lt; have z7 := L9.lt
  clear S5 G5 L6 L7 h6
  go_wp2_with fail
  go_region_held3 (fun ww => ww.cell? ⟨w.heap.size, 0, none⟩ = some (.string s) ∧ ww.cell? ⟨w1.heap.size, 0, none⟩ = some (.int .i64 LB) ∧ ww.cell? ⟨w3.heap.size, 0, none⟩ = some (.int .i64 LB) ∧ ww.cell? ⟨w3.heap.size, 1, none⟩ = some (.int .i64 J)) (exact qK) ((go_at_call 192; refine Calls.mono (HW.out _) ?_; rintro r7 w7 ⟨rfl, h7⟩; have hz7 := h7.size; (try simp at hz7); (try have ⟨hl7_0, hk7_0⟩ := qL w.heap.size w7.heap.size); (try have ⟨hl7_1, hk7_1⟩ := qL w1.heap.size w7.heap.size); (try have ⟨hl7_2, hk7_2⟩ := qL w3.heap.size w7.heap.size)))
  go_wp2
  go_ret3
  refine ⟨rfl, ?_⟩
  repeat exact qB
def shL (v : Int) (x : ByteArray) : ByteArray := if v = 62 ∧ x.size ≠ 0 then rep ⟨#[32]⟩ 2 ++ x else if v = 60 then x.extract (min (x.size - (tr1 x).size) 2) x.size else x
theorem shL_size (v : Int) (x : ByteArray) : (shL v x).size ≤ x.size + 2 := by
 unfold shL
 have h1 : (rep ⟨#[32]⟩ 2).size = 2 := by rw [rep_size]; rfl
 split
 ·rw [ByteArray.size_append]; omega
 ·split
  ·rw [ByteArray.size_extract]; omega
  ·omega
theorem vShiftedLine (v : Int) (x : ByteArray) (w : World) (hx : x.size ≤ 1000) (hv : v = 62 ∨ v = 60) :
  qC 264 #[.int .u8 v, .string x] w (.string (shL v x)) := by
 have HR : qH 201 #[.string ⟨#[32]⟩, .int .i64 2] (.string (rep ⟨#[32]⟩ 2)) := fun ww => sRepeat ⟨#[32]⟩ 2 ww qd qd
 have HT : qH 230 #[.string x, .string ⟨#[32]⟩] (.string (tr1 x)) := fun ww => sTrimL1 x ww
 have h1 : (rep ⟨#[32]⟩ 2).size = 2 := by rw [rep_size]; rfl
 have ht := tr1_size x
 unfold shL
 rcases hv with hv | hv
 ·subst hv
  by_cases h0 : x.size = 0
  ·have e : x = ⟨#[]⟩ := ByteArray.ext (Array.eq_empty_of_size_eq_zero h0)
   subst e
   rw [if_neg (fun h => h.2 rfl), if_neg qd]
   generalize rep ⟨#[32]⟩ 2 = A at *
   go_enter func264, ntmps264
   go_wp2_with fail
   refine (HR.out _).mono ?_
   rintro e w2 ⟨rfl, h2⟩
   obtain ⟨hc2, hf2, hz2⟩ := qb h2
   try simp at hz2
   go_wp2
   go_ret
   refine ⟨rfl, ?_⟩
   repeat exact qB
  ·rw [if_pos ⟨rfl, h0⟩]
   have hne := ne_empty h0
   have hne2 : ¬ x.toList = [] := by intro e; rw [e] at hne; cases hne
   generalize rep ⟨#[32]⟩ 2 = A at *
   have fs : ¬ 9223372036854775807 < A.size + x.size := by omega
   go_enter func264, ntmps264
   go_wp2_with fail
   refine (HR.out _).mono ?_
   rintro e w2 ⟨rfl, h2⟩
   obtain ⟨hc2, hf2, hz2⟩ := qb h2
   try simp at hz2
   go_wp2
   go_ret
   refine ⟨rfl, ?_⟩
   repeat exact qB
 ·subst hv
  rw [if_neg (fun h => by have := h.1; revert this; decide), if_pos rfl]
  have hw1 : IntKind.i64.wrap ((x.size : Int) - (tr1 x).size) = (x.size : Int) - (tr1 x).size := by rw [IntKind.wrap_i64]; omega
  obtain ⟨M, MI, hM, hMI, hcase⟩ : ∃ (M : Nat) (MI : Int), M = min (x.size - (tr1 x).size) 2 ∧ (M : Int) = MI ∧ ((MI = 2 ∧ (2 : Int) < (x.size : Int) - (tr1 x).size) ∨ (MI = (x.size : Int) - (tr1 x).size ∧ ¬ (2 : Int) < (x.size : Int) - (tr1 x).size)) := ⟨_, _, rfl, rfl, by omega⟩
  have hmn : min ((x.size : Int) - (tr1 x).size) 2 = MI := by omega
  have hMx : M ≤ x.size := by omega
  rw [← hM]
  generalize tr1 x = T at *
  generalize rep ⟨#[32]⟩ 2 = A at *
  clear hM
  have j1 : (0 : Int) ≤ MI := by omega
  have j2 : MI ≤ (x.size : Int) := by omega
  have j3 : MI.toNat = M := by omega
  rcases hcase with ⟨e, k1⟩ | ⟨e, k1⟩
  all_goals
   subst e
   go_enter func264, ntmps264
   go_wp2_with fail
   refine (HR.out _).mono ?_
   rintro e w2 ⟨rfl, h2⟩
   obtain ⟨hc2, hf2, hz2⟩ := qb h2
   try simp at hz2
   go_wp2_with fail
   refine (HT.out _).mono ?_
   rintro e w3 ⟨rfl, h3⟩
   obtain ⟨hc3, hf3, hz3⟩ := qb h3
   try simp at hz3
   go_wp2
   go_ret
   refine ⟨by first | rfl | (rw [← j3]; rfl) | (simp [← j3]; done), ?_⟩
   repeat exact qB
theorem StrRow.set {w : World} {b : Nat} {l : List ByteArray} (h : StrRow w b l) (k : Nat) (x : ByteArray) (hk : k < l.length) : StrRow (w.setCell ⟨b, k, none⟩ (.string x)) b (l.set k x) := by
 refine ⟨fun j hj => ?_, fun j => ?_, by simpa [World.setCell] using h.lt⟩
 ·by_cases e : k = j
  ·subst e
   have := h.c k hk
   have hfz := h.fz k
   go_simp
  ·have hj' : j < l.length := by simpa using hj
   have := h.c j hj'
   rw [World.cell?_setCell_other _ _ _ _ qf, this]
   simp [List.getElem_set, e]
 ·rw [frozen_set]; exact h.fz j
theorem StrRow.other {w : World} {b : Nat} {l : List ByteArray} (h : StrRow w b l) {q : Addr} (hp : b ≠ q.block) (u : Value) : StrRow (w.setCell q u) b l :=
 ⟨fun j hj => by rw [World.cell?_of_block (w := w) (Below.heap_setCell _ _ _ _ hp)]; exact h.c j hj, fun j => by rw [World.frozen?_of_block (w := w) (Below.heap_setCell _ _ _ _ hp)]; exact h.fz j, by simpa [World.setCell] using h.lt⟩
theorem StrRow.drew' {w : World} {b : Nat} {l : List ByteArray} (h : StrRow w b l) : StrRow w.drew b l := h.below (Below.refl _ _).drew
def jnL (l : List ByteArray) : ByteArray := ⟨(Lib.join (l.map (·.data.toList)) [10]).toArray⟩
theorem jnL_size (l : List ByteArray) : (jnL l).size ≤ (l.map ByteArray.size).sum + l.length := by
 have h : (jnL l).size = (Lib.join (l.map (·.data.toList)) [10]).length := by unfold jnL; show (Lib.join (l.map (·.data.toList)) [10]).toArray.size = _; simp
 rw [h]
 cases l with
 | nil => simp [Lib.join_nil]
 | cons x r =>
  rw [List.map_cons, Lib.join_length]
  have e : Lib.lens (x.data.toList :: r.map (·.data.toList)) = ((x :: r).map ByteArray.size).sum := by
   unfold Lib.lens
   simp only [List.map_cons, List.map_map, List.sum_cons]
   congr 1
  rw [e]
  simp
  omega
theorem sJoinL (l : List ByteArray) (b : Nat) (w : World) (h1 : 1 ≤ l.length) (h2 : (l.map ByteArray.size).sum + l.length ≤ 100000) (hb : StrRow w b l) :
  qC 265 #[.slice (some ⟨b, 0, none⟩) l.length l.length, .string ⟨#[10]⟩] w (.string (jnL l)) := by
 have hz := jnL_size l
 have hz2 : (jnL l).size = (Lib.join (l.map (·.data.toList)) [10]).length := by unfold jnL; show (Lib.join (l.map (·.data.toList)) [10]).toArray.size = _; simp
 have hc : ∀ (j : Nat) x, l[j]? = some x → w.cell? ⟨b, 0 + j, none⟩ = some (.string x) := by
  intro j x hx
  obtain ⟨hj, e⟩ := List.getElem?_eq_some_iff.1 hx
  rw [Nat.zero_add, hb.c j hj, e]
 by_cases h3 : 2 ≤ l.length
 ·exact Any.strings_Join_many lays156 Builder_Extra_156 b 0 l.length l ⟨#[10]⟩ w hc hb.lt h3 qo (Nat.le_refl _) (by rw [← hz2]; omega)
 ·obtain ⟨x, rfl⟩ : ∃ x, l = [x] := by
   match l, h1, h3 with
   | [x], _, _ => exact ⟨x, rfl⟩
   | _ :: _ :: _, _, h => simp at h
  have e : jnL [x] = x := by unfold jnL; simp [Lib.join_one]
  rw [e]
  refine Calls.mono (Any.strings_Join_one lays156 Builder_Extra_156 b 0 1 x ⟨#[10]⟩ w (hc 0 x rfl)) ?_
  rintro e w' ⟨rfl, rfl⟩
  exact ⟨rfl, Below.refl _ _⟩
theorem le_sumN {x : Nat} : ∀ {l : List Nat}, x ∈ l → x ≤ l.sum := by
 intro l
 induction l with
 | nil => intro h; cases h
 | cons a r ih =>
  intro h
  simp only [List.sum_cons]
  cases List.mem_cons.1 h with
  | inl e => omega
  | inr e => have := ih e; omega
def shT (v : Int) (s : ByteArray) (i j : Nat) : ByteArray := wth s (jnL ((spl (s.extract i j)).map (shL v))) i j
theorem sum_shL (v : Int) (l : List ByteArray) : ((l.map (shL v)).map ByteArray.size).sum ≤ (l.map ByteArray.size).sum + 2 * l.length := by
 induction l with
 | nil => simp
 | cons x r ih =>
  have := shL_size v x
  simp only [List.map_cons, List.sum_cons, List.length_cons]
  omega
theorem qt12 {P : Prop} (h : P := by
  clear S5 T5 U5
  obtain ⟨k, hk, rfl, S, T2, hB⟩ := hrel
  have hSl := S.lt
  have zB := hB.size
  have lT := T2.lt
  by_cases hkl : k < L.length
  ·have hlL : ((L.take k).map (shL v) ++ L.drop k).length = L.length := by simp; omega
   have hc := S.c k qo
   have hfz := S.fz
   have hx : ((L.take k).map (shL v) ++ L.drop k)[k]'(by omega) = L[k]'hkl := by
    rw [List.getElem_append_right qs]
    simp
    congr 1
    omega
   rw [hx] at hc
   have HSk := HSL k hkl
   have el : ((L.take k).map (shL v) ++ L.drop k).set k (shL v (L[k]'hkl)) = (L.take (k + 1)).map (shL v) ++ L.drop (k + 1) := by
    rw [List.set_append_right _ _ qs]
    have e1 : k - (List.map (shL v) (List.take k L)).length = 0 := by simp; omega
    rw [e1, List.drop_eq_getElem_cons hkl, List.set_cons_zero, List.take_succ_eq_append_getElem hkl, List.map_append]
    simp
   have HE : Hid (∀ ww, StrRow ww w1.heap.size ((L.take k).map (shL v) ++ L.drop k) → StrRow (ww.setCell ⟨w1.heap.size, k, none⟩ (.string (shL v (L[k]'hkl)))) w1.heap.size ((L.take (k + 1)).map (shL v) ++ L.drop (k + 1))) := by
    intro ww hh
    rw [← el]
    exact hh.set k _ qo
   have i1 : ((k : Nat) : Int) < ((L.length : Nat) : Int) := by omega
   clear el hx hlL
   generalize shL v (L[k]'hkl) = Y at *
   generalize L[k]'hkl = y at *
   go_wp2_with fail
   refine (HSk.out _).mono ?_
   rintro e w3 ⟨rfl, h3⟩
   obtain ⟨hc3, hf3, hz3⟩ := qb h3
   try simp at hz3
   have S3 := S.below h3
   have T3 := T2.below h3
   have c3 := memLater h3 hc
   have z3 := S3.fz
   have y3 := S3.lt
   clear hc3 hf3
   have S4 := HE.out _ S3
   go_wp2
   go_round
   case rel =>
    refine ⟨k + 1, by omega, by go_num, S4, Two.other T3 qs _, ?_⟩
    repeat exact qB
   case measure => simp [intOf] <;> omega
  ·have ek : k = L.length := by omega
   have hns : ¬ ((k : Nat) : Int) < ((L.length : Nat) : Int) := by omega
   have eL : (L.take k).map (shL v) ++ L.drop k = L.map (shL v) := by rw [ek, List.take_length, List.drop_length, List.append_nil]
   rw [eL] at S
   clear eL ek
   have t0 := T2.c0
   have t1 := T2.c1
   go_wp2_with fail
   go_wp2_with fail
   go_region_held3 (fun ww => ww.cell? ⟨w.heap.size + 1, 0, none⟩ = some (.int .i64 i) ∧ ww.cell? ⟨w.heap.size + 1, 1, none⟩ = some (.int .i64 j)) (exact qK) (first | (go_at_call 265; refine Calls.mono (HJ.out _ _ S.drew') ?_; rintro r6 w6 ⟨rfl, h6⟩; have hz6 := h6.size; (try simp at hz6); (try have ⟨hl6_0, hk6_0⟩ := qL (w.heap.size + 1) w6.heap.size)) | (go_at_call 192; refine Calls.mono (HW.out _) ?_; rintro r7 w7 ⟨rfl, h7⟩; have hz7 := h7.size; (try simp at hz7); (try have ⟨hl7_0, hk7_0⟩ := qL (w.heap.size + 1) w7.heap.size)))
   rename_i hHeld
   have q0 := hHeld.1
   have U7 : Below w.heap.size w w7 := by
    repeat exact qB
   clear hHeld h6 h7 hB S T2
   go_wp2_with fail
   refine (HLn.out _).mono ?_
   rintro e w8 ⟨rfl, h8⟩
   obtain ⟨hc8, hf8, hz8⟩ := qb h8
   try simp at hz8
   go_wp2_with fail
   refine (HF.out _).mono ?_
   rintro e w9 ⟨rfl, h9⟩
   obtain ⟨hc9, hf9, hz9⟩ := qb h9
   try simp at hz9
   go_wp2
   go_ret2
   refine ⟨rfl, ?_⟩
   have z7 := U7.size
   repeat exact qB
 ) : P := h
theorem vShifted_lines (v : Int) (s : ByteArray) (i j : Nat) (w : World) (hs : s.size ≤ 1000) (h : i ≤ j) (hj : j ≤ s.size) (hv : v = 62 ∨ v = 60) :
  qC 219 #[.int .u8 v, .string s, .agg #[.int .i64 i, .int .i64 j, .bool true]] w (.tuple #[.string (shT v s i j), .int .i64 (frs (shT v s i j) i)]) := by
 have hos : (s.extract i j).size = j - i := by rw [ByteArray.size_extract]; omega
 have HO : qH 87 #[.string s, .agg #[.int .i64 (i), .int .i64 (j)]] (.string (s.extract i j)) := fun ww => tOf_any s i j i j ww hs rfl rfl h hj
 have HSp : Hid (∀ ww, Calls Tryz.prog 198 #[.string (s.extract i j), .string ⟨#[10]⟩] ww fun e w' => e = .returned (.slice (some ⟨ww.heap.size, 0, none⟩) (spl (s.extract i j)).length (spl (s.extract i j)).length) ∧ w' = ww.alloc (.cells ((spl (s.extract i j)).map Value.string).toArray 9)) := fun ww => sSplit _ ww qo
 have hsum := spl_sum (s.extract i j)
 have hpos := spl_pos (s.extract i j)
 unfold shT
 generalize s.extract i j = O at *
 generalize spl O = L at *
 have hsh := sum_shL v L
 have hjz := jnL_size (L.map (shL v))
 rw [List.length_map] at hjz
 have HJ : Hid (∀ ww b, StrRow ww b (L.map (shL v)) → qC 265 #[.slice (some ⟨b, 0, none⟩) L.length L.length, .string ⟨#[10]⟩] ww (.string (jnL (L.map (shL v))))) := by
  intro ww b hb
  have := sJoinL (L.map (shL v)) b ww (by rw [List.length_map]; exact hpos) (by rw [List.length_map]; omega) hb
  rw [List.length_map] at this
  exact this
 have HW : qH 192 #[.string s, .agg #[.int .i64 (i), .int .i64 (j)], .string (jnL (L.map (shL v)))] (.string (wth s (jnL (L.map (shL v))) i j)) := fun ww => tWith_any s _ i j i j ww hs qo rfl rfl h hj
 have hX := wth_size (s := s) (b := jnL (L.map (shL v))) h hj
 have hX2 : (wth s (jnL (L.map (shL v))) i j).size ≤ 1000000 := by omega
 have hXi : i ≤ (wth s (jnL (L.map (shL v))) i j).size := by omega
 generalize wth s (jnL (L.map (shL v))) i j = X at *
 generalize jnL (L.map (shL v)) = JN at *
 have HLn : qH 195 #[.string X, .int .i64 i] (.agg #[.int .i64 (beg X i), .int .i64 (fin X i)]) := fun ww => tLine_big X i i ww hX2 rfl hXi
 have HF : qH 243 #[.string X, .agg #[.int .i64 (beg X i), .int .i64 (fin X i)]] (.int .i64 (frs X i)) := fun ww => tFirst_big X _ _ i ww hX2 hXi rfl rfl
 generalize frs X i = F at *
 generalize beg X i = B2 at *
 generalize fin X i = E2 at *
 have hLz : ∀ k (hk : k < L.length), (L[k]'hk).size ≤ 1000 := by
  intro k hk
  have : (L[k]'hk).size ≤ (L.map ByteArray.size).sum := le_sumN (List.mem_map.2 ⟨L[k]'hk, List.getElem_mem hk, rfl⟩)
  omega
 have HSL : ∀ k (hk : k < L.length), qH 264 #[.int .u8 v, .string (L[k]'hk)] (.string (shL v (L[k]'hk))) := fun k hk ww => vShiftedLine v _ ww (hLz k hk) hv
 have hln : L.length ≤ 2000 := by omega
 clear hsh hjz hX hX2 hXi hsum hos hLz
 go_enter func219, ntmps219
 have T : Two ((w.alloc (.cells #[.int .i64 i, .int .i64 j, .bool true] 186)).alloc (.cells #[.int .i64 i, .int .i64 j] 128)) (w.heap.size + 1) i j := qN
 go_wp2_with fail
 refine (HO.out _).mono ?_
 rintro r1 w1 ⟨rfl, h1⟩
 obtain ⟨hc1, hf1, hz1⟩ := qb h1
 (try simp at hz1)
 have T1 : Two w1 (w.heap.size + 1) (i) (j) := qTw
 have ⟨T1_0, T1_1, T1_z, T1_l⟩ := T1
 clear hc1 hf1
 go_wp2_with fail
 refine (HSp.out _).mono ?_
 rintro e w5 ⟨rfl, rfl⟩
 have S5 := StrRow.new w1 L 9
 have T5 := T1.alloc (.cells (L.map Value.string).toArray 9)
 have U5 : Below w.heap.size w (w1.alloc (.cells (L.map Value.string).toArray 9)) := by
  repeat exact qB
 go_wp2_with fail
 go_loopw [31] (fun a wr => ∃ (k : Nat), k ≤ L.length ∧ a = .int .i64 k ∧ StrRow wr w1.heap.size ((L.take k).map (shL v) ++ L.drop k) ∧ Two wr (w.heap.size + 1) i j ∧ Below w.heap.size w wr) (fun a _ => L.length - (intOf a).toNat)
 case atStart => exact ⟨0, Nat.zero_le _, rfl, by simpa using S5, T5, U5⟩
 case round =>
  exact qt12
theorem vShifted_piece (v : Int) (s : ByteArray) (a b i j : Nat) (w : World) (hs : s.size ≤ 1000) (hab : a < b) (hb : b ≤ s.size) (ei : i = min (beg s a) (beg s (b - 1))) (ej : j = max (fin s a) (fin s (b - 1))) (hv : v = 62 ∨ v = 60) :
  qC 219 #[.int .u8 v, .string s, .agg #[.int .i64 a, .int .i64 b, .bool false]] w (.tuple #[.string (shT v s i j), .int .i64 (frs (shT v s i j) i)]) := by
 have h1a := beg_le s a
 have h2a := fin_ge s a
 have h3a := fin_le (s := s) (p := a) qo
 have h4a := fin_le (s := s) (p := b - 1) qo
 have h : i ≤ j := by omega
 have hj : j ≤ s.size := by omega
 have HLa : qH 202 #[.agg #[.int .i64 (a), .int .i64 (b)]] (.int .i64 ((b - 1 : Nat) : Int)) := by
  intro ww
  have := tLast_any a b ww qo
  rw [show max (a : Int) (b - 1) = ((b - 1 : Nat) : Int) by omega] at this
  exact this
 have HLi : qH 182 #[.string s, .int .i64 a, .int .i64 ((b - 1 : Nat) : Int)] (.agg #[.int .i64 i, .int .i64 j, .bool true]) := by
  intro ww
  have := tLines_any s a ((b - 1 : Nat) : Int) a (b - 1) ww hs rfl rfl qo qo
  rw [show min ((beg s a : Nat) : Int) (beg s (b - 1)) = (i : Int) by omega, show max ((fin s a : Nat) : Int) (fin s (b - 1)) = (j : Int) by omega] at this
  exact this
 have hfd : ∀ ww : World, (Instr.field 186 (.agg #[.int .i64 i, .int .i64 j, .bool true]) 0).run Tryz.prog ww = .ok (.agg #[.int .i64 i, .int .i64 j]) ww := fun _ => by kernel_rfl
 clear ei ej h1a h2a h3a h4a
 generalize b - 1 = b1 at *
 have hos : (s.extract i j).size = j - i := by rw [ByteArray.size_extract]; omega
 have HO : qH 87 #[.string s, .agg #[.int .i64 (i), .int .i64 (j)]] (.string (s.extract i j)) := fun ww => tOf_any s i j i j ww hs rfl rfl h hj
 have HSp : Hid (∀ ww, Calls Tryz.prog 198 #[.string (s.extract i j), .string ⟨#[10]⟩] ww fun e w' => e = .returned (.slice (some ⟨ww.heap.size, 0, none⟩) (spl (s.extract i j)).length (spl (s.extract i j)).length) ∧ w' = ww.alloc (.cells ((spl (s.extract i j)).map Value.string).toArray 9)) := fun ww => sSplit _ ww qo
 have hsum := spl_sum (s.extract i j)
 have hpos := spl_pos (s.extract i j)
 unfold shT
 generalize s.extract i j = O at *
 generalize spl O = L at *
 have hsh := sum_shL v L
 have hjz := jnL_size (L.map (shL v))
 rw [List.length_map] at hjz
 have HJ : Hid (∀ ww b, StrRow ww b (L.map (shL v)) → qC 265 #[.slice (some ⟨b, 0, none⟩) L.length L.length, .string ⟨#[10]⟩] ww (.string (jnL (L.map (shL v))))) := by
  intro ww b hb
  have := sJoinL (L.map (shL v)) b ww (by rw [List.length_map]; exact hpos) (by rw [List.length_map]; omega) hb
  rw [List.length_map] at this
  exact this
 have HW : qH 192 #[.string s, .agg #[.int .i64 (i), .int .i64 (j)], .string (jnL (L.map (shL v)))] (.string (wth s (jnL (L.map (shL v))) i j)) := fun ww => tWith_any s _ i j i j ww hs qo rfl rfl h hj
 have hX := wth_size (s := s) (b := jnL (L.map (shL v))) h hj
 have hX2 : (wth s (jnL (L.map (shL v))) i j).size ≤ 1000000 := by omega
 have hXi : i ≤ (wth s (jnL (L.map (shL v))) i j).size := by omega
 generalize wth s (jnL (L.map (shL v))) i j = X at *
 generalize jnL (L.map (shL v)) = JN at *
 have HLn : qH 195 #[.string X, .int .i64 i] (.agg #[.int .i64 (beg X i), .int .i64 (fin X i)]) := fun ww => tLine_big X i i ww hX2 rfl hXi
 have HF : qH 243 #[.string X, .agg #[.int .i64 (beg X i), .int .i64 (fin X i)]] (.int .i64 (frs X i)) := fun ww => tFirst_big X _ _ i ww hX2 hXi rfl rfl
 generalize frs X i = F at *
 generalize beg X i = B2 at *
 generalize fin X i = E2 at *
 have hLz : ∀ k (hk : k < L.length), (L[k]'hk).size ≤ 1000 := by
  intro k hk
  have : (L[k]'hk).size ≤ (L.map ByteArray.size).sum := le_sumN (List.mem_map.2 ⟨L[k]'hk, List.getElem_mem hk, rfl⟩)
  omega
 have HSL : ∀ k (hk : k < L.length), qH 264 #[.int .u8 v, .string (L[k]'hk)] (.string (shL v (L[k]'hk))) := fun k hk ww => vShiftedLine v _ ww (hLz k hk) hv
 have hln : L.length ≤ 2000 := by omega
 clear hsh hjz hX hX2 hXi hsum hos hLz
 go_enter func219, ntmps219
 go_wp2_with fail
 have T0 : Two ((w.alloc (.cells #[.int .i64 a, .int .i64 b, .bool false] 186)).alloc (.cells #[.int .i64 a, .int .i64 b] 128)) (w.heap.size + 1) a b := qN
 have g2 : ((w.alloc (.cells #[.int .i64 a, .int .i64 b, .bool false] 186)).alloc (.cells #[.int .i64 a, .int .i64 b] 128)).cell? ⟨w.heap.size, 2, none⟩ = some (.bool false) := by simp
 have U0 : Below w.heap.size w ((w.alloc (.cells #[.int .i64 a, .int .i64 b, .bool false] 186)).alloc (.cells #[.int .i64 a, .int .i64 b] 128)) := by
  repeat exact qB
 have l0 : w.heap.size + 1 < ((w.alloc (.cells #[.int .i64 a, .int .i64 b, .bool false] 186)).alloc (.cells #[.int .i64 a, .int .i64 b] 128)).heap.size := by simp
 generalize ((w.alloc (.cells #[.int .i64 a, .int .i64 b, .bool false] 186)).alloc (.cells #[.int .i64 a, .int .i64 b] 128)) = W at *
 refine wp_region_held_drew (S := fun ww => ww.cell? ⟨w.heap.size, 2, none⟩ = some (.bool false)) qk ?_ (fun hHeld => ?_)
 ·exact memLater ((Below.refl _ _).drew) g2
 refine qT 0 ?_
 simp only [Act.put, qP]
 refine qT 1 ?_
 simp only [Act.put, qP]
 have t0 : W.drew.cell? ⟨w.heap.size + 1, 0, none⟩ = some (.int .i64 a) := memLater ((Below.refl _ _).drew) T0.c0
 have t1 : W.drew.cell? ⟨w.heap.size + 1, 1, none⟩ = some (.int .i64 b) := memLater ((Below.refl _ _).drew) T0.c1
 have gD : W.drew.cell? ⟨w.heap.size, 2, none⟩ = some (.bool false) := memLater ((Below.refl _ _).drew) g2
 refine wpAnyH_ready (rs := [2, 3]) qk qi (AllReadyH.cons rfl (fun K hK => ?_) (AllReadyH.cons rfl (fun K hK => ?_) AllReadyH.nil))
 focus
  rw [if_pos (by rfl)]
  go_wp2_with fail
  refine hK.out _ _ gD (fun hHeld => ?_)
  clear hK K
  try simp only [Act.put, qP]
  refine qR 3 fun K hK => ?_
  rw [if_pos (by rfl)]
  go_wp2_with fail
  refine hK.out _ _ ?_ (fun hHeld => ?_)
  ·exact gD
  clear hK K
  try simp only [Act.put, qP]
  refine qR 4 fun K hK => ?_
  rw [if_pos (by rfl)]
  go_wp2_with fail
  refine (HLa.out _).mono ?_
  rintro r3 w3 ⟨rfl, h3⟩
  obtain ⟨hc3, hf3, hz3⟩ := qb h3
  (try simp at hz3)
  go_wp2_with fail
  refine hK.out _ _ ?_ (fun hHeld => ?_)
  ·exact memLater h3 gD
  clear hK K
  try simp only [Act.put, qP]
  clear hc3 hf3
  have TL := (T0.drew).below h3
  have gL := memLater h3 gD
  have UL : Below w.heap.size w w3 := (U0.drew).trans (h3.mono (by have := U0.size; simpa using this))
  refine qR 5 fun K hK => ?_
  rw [if_pos (by rfl)]
  go_wp2_with fail
  refine (HLi.out _).mono ?_
  rintro r4 w4 ⟨rfl, h4⟩
  obtain ⟨hc4, hf4, hz4⟩ := qb h4
  (try simp at hz4)
  go_wp2_with fail
  refine hK.out _ _ ?_ (fun hHeld => ?_)
  ·exact memLater h4 gL
  clear hK K
  try simp only [Act.put, qP]
  have T4 := TL.below h4
  have g4 := memLater h4 gL
  have ⟨x0, x1, xz, xl⟩ := T4
  have zz4 := h4.size
  clear hc4 hf4
  refine qT 6 ?_
  simp only [Act.put, qP]
  refine qR 7 fun K hK => ?_
  rw [if_pos (by rfl)]
  go_wp2_with fail
  refine hK.out _ _ ?_ (fun hHeld => ?_)
  ·go_simp
  clear hK K
  try simp only [Act.put, qP]
  refine wpAnyH_done qk ?_ _
  have T : Two ((w4.setCell ⟨w.heap.size + 1, 0, none⟩ (.int .i64 i)).setCell ⟨w.heap.size + 1, 1, none⟩ (.int .i64 j)) (w.heap.size + 1) i j := Two.set1 (Two.set0 T4 _) _
  have U3 : Below w.heap.size w ((w4.setCell ⟨w.heap.size + 1, 0, none⟩ (.int .i64 i)).setCell ⟨w.heap.size + 1, 1, none⟩ (.int .i64 j)) := Below.setCell (Below.setCell (UL.trans (h4.mono UL.size)) qi _) qi _
  have l3 : w.heap.size + 1 < ((w4.setCell ⟨w.heap.size + 1, 0, none⟩ (.int .i64 i)).setCell ⟨w.heap.size + 1, 1, none⟩ (.int .i64 j)).heap.size := T.lt
  generalize ((w4.setCell ⟨w.heap.size + 1, 0, none⟩ (.int .i64 i)).setCell ⟨w.heap.size + 1, 1, none⟩ (.int .i64 j)) = W3 at *
  clear x0 x1 xz xl T4 g4 h4 zz4
 rotate_left
 focus
  rw [if_pos (by rfl)]
  go_wp2_with fail
  refine hK.out _ _ gD (fun hHeld => ?_)
  clear hK K
  try simp only [Act.put, qP]
  refine wpAnyH_ready (rs := [2, 4]) qk qi (AllReadyH.cons rfl (fun K hK => ?_) (AllReadyH.cons rfl (fun K hK => ?_) AllReadyH.nil))
  focus
   rw [if_pos (by rfl)]
   go_wp2_with fail
   refine hK.out _ _ gD (fun hHeld => ?_)
   clear hK K
   try simp only [Act.put, qP]
   refine qR 4 fun K hK => ?_
   rw [if_pos (by rfl)]
   go_wp2_with fail
   refine (HLa.out _).mono ?_
   rintro r3 w3 ⟨rfl, h3⟩
   obtain ⟨hc3, hf3, hz3⟩ := qb h3
   (try simp at hz3)
   go_wp2_with fail
   refine hK.out _ _ ?_ (fun hHeld => ?_)
   ·exact memLater h3 gD
   clear hK K
   try simp only [Act.put, qP]
   clear hc3 hf3
   have TL := (T0.drew).below h3
   have gL := memLater h3 gD
   have UL : Below w.heap.size w w3 := (U0.drew).trans (h3.mono (by have := U0.size; simpa using this))
   refine qR 5 fun K hK => ?_
   rw [if_pos (by rfl)]
   go_wp2_with fail
   refine (HLi.out _).mono ?_
   rintro r4 w4 ⟨rfl, h4⟩
   obtain ⟨hc4, hf4, hz4⟩ := qb h4
   (try simp at hz4)
   go_wp2_with fail
   refine hK.out _ _ ?_ (fun hHeld => ?_)
   ·exact memLater h4 gL
   clear hK K
   try simp only [Act.put, qP]
   have T4 := TL.below h4
   have g4 := memLater h4 gL
   have ⟨x0, x1, xz, xl⟩ := T4
   have zz4 := h4.size
   clear hc4 hf4
   refine qT 6 ?_
   simp only [Act.put, qP]
   refine qR 7 fun K hK => ?_
   rw [if_pos (by rfl)]
   go_wp2_with fail
   refine hK.out _ _ ?_ (fun hHeld => ?_)
   ·go_simp
   clear hK K
   try simp only [Act.put, qP]
   refine wpAnyH_done qk ?_ _
   have T : Two ((w4.setCell ⟨w.heap.size + 1, 0, none⟩ (.int .i64 i)).setCell ⟨w.heap.size + 1, 1, none⟩ (.int .i64 j)) (w.heap.size + 1) i j := Two.set1 (Two.set0 T4 _) _
   have U3 : Below w.heap.size w ((w4.setCell ⟨w.heap.size + 1, 0, none⟩ (.int .i64 i)).setCell ⟨w.heap.size + 1, 1, none⟩ (.int .i64 j)) := Below.setCell (Below.setCell (UL.trans (h4.mono UL.size)) qi _) qi _
   have l3 : w.heap.size + 1 < ((w4.setCell ⟨w.heap.size + 1, 0, none⟩ (.int .i64 i)).setCell ⟨w.heap.size + 1, 1, none⟩ (.int .i64 j)).heap.size := T.lt
   generalize ((w4.setCell ⟨w.heap.size + 1, 0, none⟩ (.int .i64 i)).setCell ⟨w.heap.size + 1, 1, none⟩ (.int .i64 j)) = W3 at *
   clear x0 x1 xz xl T4 g4 h4 zz4
  rotate_left
  focus
   rw [if_pos (by rfl)]
   go_wp2_with fail
   refine (HLa.out _).mono ?_
   rintro r3 w3 ⟨rfl, h3⟩
   have TL := (T0.drew).below h3
   have gL := memLater h3 gD
   have UL : Below w.heap.size w w3 := (U0.drew).trans (h3.mono (by have := U0.size; simpa using this))
   have y0 := TL.c0
   go_wp2_with fail
   refine hK.out _ _ gL (fun hHeld => ?_)
   clear hK K
   try simp only [Act.put, qP]
   refine qR 2 fun K hK => ?_
   rw [if_pos (by rfl)]
   go_wp2_with fail
   refine hK.out _ _ ?_ (fun hHeld => ?_)
   ·exact gL
   clear hK K
   try simp only [Act.put, qP]
   clear y0
   refine qR 5 fun K hK => ?_
   rw [if_pos (by rfl)]
   go_wp2_with fail
   refine (HLi.out _).mono ?_
   rintro r4 w4 ⟨rfl, h4⟩
   obtain ⟨hc4, hf4, hz4⟩ := qb h4
   (try simp at hz4)
   go_wp2_with fail
   refine hK.out _ _ ?_ (fun hHeld => ?_)
   ·exact memLater h4 gL
   clear hK K
   try simp only [Act.put, qP]
   have T4 := TL.below h4
   have g4 := memLater h4 gL
   have ⟨x0, x1, xz, xl⟩ := T4
   have zz4 := h4.size
   clear hc4 hf4
   refine qT 6 ?_
   simp only [Act.put, qP]
   refine qR 7 fun K hK => ?_
   rw [if_pos (by rfl)]
   go_wp2_with fail
   refine hK.out _ _ ?_ (fun hHeld => ?_)
   ·go_simp
   clear hK K
   try simp only [Act.put, qP]
   refine wpAnyH_done qk ?_ _
   have T : Two ((w4.setCell ⟨w.heap.size + 1, 0, none⟩ (.int .i64 i)).setCell ⟨w.heap.size + 1, 1, none⟩ (.int .i64 j)) (w.heap.size + 1) i j := Two.set1 (Two.set0 T4 _) _
   have U3 : Below w.heap.size w ((w4.setCell ⟨w.heap.size + 1, 0, none⟩ (.int .i64 i)).setCell ⟨w.heap.size + 1, 1, none⟩ (.int .i64 j)) := Below.setCell (Below.setCell (UL.trans (h4.mono UL.size)) qi _) qi _
   have l3 : w.heap.size + 1 < ((w4.setCell ⟨w.heap.size + 1, 0, none⟩ (.int .i64 i)).setCell ⟨w.heap.size + 1, 1, none⟩ (.int .i64 j)).heap.size := T.lt
   generalize ((w4.setCell ⟨w.heap.size + 1, 0, none⟩ (.int .i64 i)).setCell ⟨w.heap.size + 1, 1, none⟩ (.int .i64 j)) = W3 at *
   clear x0 x1 xz xl T4 g4 h4 zz4
 all_goals
  have x0 := T.c0
  have x1 := T.c1
  go_wp2_with fail
  refine (HO.out _).mono ?_
  rintro r1 w1 ⟨rfl, h1⟩
  obtain ⟨hc1, hf1, hz1⟩ := qb h1
  (try simp at hz1)
  have T1 : Two w1 (w.heap.size + 1) (i) (j) := qTw
  have ⟨T1_0, T1_1, T1_z, T1_l⟩ := T1
  clear hc1 hf1
  go_wp2_with fail
  refine (HSp.out _).mono ?_
  rintro e w5 ⟨rfl, rfl⟩
  have S5 := StrRow.new w1 L 9
  have T5 := T1.alloc (.cells (L.map Value.string).toArray 9)
  have U5 : Below w.heap.size w (w1.alloc (.cells (L.map Value.string).toArray 9)) := by
   repeat exact qB
  go_wp2_with fail
  go_loopw [31] (fun a wr => ∃ (k : Nat), k ≤ L.length ∧ a = .int .i64 k ∧ StrRow wr w1.heap.size ((L.take k).map (shL v) ++ L.drop k) ∧ Two wr (w.heap.size + 1) i j ∧ Below w.heap.size w wr) (fun a _ => L.length - (intOf a).toNat)
  case atStart => exact ⟨0, Nat.zero_le _, rfl, by simpa using S5, T5, U5⟩
  case round =>
   exact qt12
theorem vDo_s (v : Int) (s X : ByteArray) (i j p q : Int) (l : Bool) (w : World) (hv : v = 62 ∨ v = 60)
  (HW : qH 219 #[.int .u8 v, .string s, .agg #[.int .i64 i, .int .i64 j, .bool l]] (.tuple #[.string X, .int .i64 q])) :
  qC 174 #[.int .u8 v, .string s, .agg #[.int .i64 i, .int .i64 j, .bool l], .int .i64 p] w (.tuple #[.string X, .int .i64 q]) := by
 rcases hv with hv | hv
 all_goals
  subst hv
  go_enter func174, ntmps174
  go_wp2_with fail
  refine (HW.out _).mono ?_
  rintro e w1 ⟨rfl, h1⟩
  obtain ⟨hc1, hf1, hz1⟩ := qb h1
  try simp at hz1
  go_wp2
  exact qV (.tuple #[.string X, .int .i64 q]) (by simp [results, results174, go_sem]) rfl
theorem vBack_ex (s : ByteArray) (i j p : Nat) (l : Bool) (hs : s.size ≤ 1000) (hij : i ≤ j) (hj : j ≤ s.size) (hp : p ≤ s.size) :
  ∃ q : Nat, q ≤ s.size ∧ ∀ ww, qC 221 #[.string s, .agg #[.int .i64 i, .int .i64 j, .bool l], .int .i64 p] ww (.int .i64 q) := by
 cases l with
 | false => exact ⟨i, by omega, fun ww => vBack_piece s i j p ww⟩
 | true =>
  have h1 := beg_le s i
  have h2 := fin_le (s := s) (p := i) qo
  have h3 := beg_le s p
  have h5 := fin_ge s i
  refine ⟨(if beg s i = beg s p ∧ fin s i = fin s p then (p : Int) else min (beg s i + (p - beg s p)) (max (beg s i) (fin s i - 1))).toNat, ?_, fun ww => ?_⟩
  ·split <;> omega
  ·have := vBack_lines s i p j ww hs qo hp
   rw [show (((if beg s i = beg s p ∧ fin s i = fin s p then (p : Int) else min (beg s i + (p - beg s p)) (max (beg s i) (fin s i - 1))).toNat : Nat) : Int) = (if beg s i = beg s p ∧ fin s i = fin s p then (p : Int) else min (beg s i + (p - beg s p)) (max (beg s i) (fin s i - 1))) by split <;> omega]
   exact this
abbrev GivesV (v : Int) (s : ByteArray) (i j p : Nat) (l : Bool) (X : ByteArray) (q : Nat) : Prop :=
 ∀ ww, Calls Tryz.prog 174 #[.int .u8 v, .string s, .agg #[.int .i64 i, .int .i64 j, .bool l], .int .i64 p] ww fun e w' => e = .returned (.tuple #[.string X, .int .i64 q]) ∧ Below ww.heap.size ww w'
theorem vDo_d_ex (s : ByteArray) (i j p : Nat) (l : Bool) (hs : s.size ≤ 1000) (hij : i ≤ j) (hj : j ≤ s.size) : ∃ X q, X.size ≤ 1000 ∧ q ≤ X.size ∧ (l = false → X = cutS s i j ∧ q = i) ∧ GivesV 100 s i j p l X q := by
 cases l with
 | false =>
  have hz := cutS_size hij hj
  exact ⟨cutS s i j, i, by omega, by omega, fun _ => ⟨rfl, rfl⟩, fun ww => vDo_d s _ i j p i false ww (fun w2 => vWithout_piece s i j w2 hs hij hj)⟩
 | true =>
  obtain ⟨g1, g2⟩ := we_le hij hj
  have hz := cutS_size g1 g2
  exact ⟨_, _, by omega, frs_le qo, (fun h => by cases h), fun ww => vDo_d s _ i j p _ true ww (fun w2 => vWithout_lines s i j w2 hs hij hj)⟩
theorem vDo_y_ex (s : ByteArray) (i j p : Nat) (l : Bool) (hs : s.size ≤ 1000) (hij : i ≤ j) (hj : j ≤ s.size) (hp : p ≤ s.size) : ∃ q, q ≤ s.size ∧ GivesV 121 s i j p l s q := by
 obtain ⟨q, hq, HB⟩ := vBack_ex s i j p l hs hij hj hp
 exact ⟨q, hq, fun ww => vDo_copy s i j p q l ww HB⟩
theorem vDo_p_ex (v : Int) (s : ByteArray) (i j p : Nat) (l : Bool) (hs : s.size ≤ 1000) (hij : i ≤ j) (hj : j ≤ s.size) (hp : p ≤ s.size) (hne : ¬ (i = j ∧ l = false)) (hv : v = 62 ∨ v = 60 ∨ v = 117 ∨ v = 85) : ∃ X q, q ≤ X.size ∧ GivesV v s i j p l X q := by
 have hsh : ∀ a b : Nat, a ≤ b → b ≤ s.size → a ≤ (shT v s a b).size := by
  intro a b h1 h2
  unfold shT
  rw [wth_size h1 h2]
  omega
 by_cases hv2 : v = 62 ∨ v = 60
 ·cases l with
  | true => exact ⟨_, _, frs_le (hsh i j hij hj), fun ww => vDo_s v s _ i j p _ true ww hv2 (fun w2 => vShifted_lines v s i j w2 hs hij hj hv2)⟩
  | false =>
   have h1 := beg_le s i
   have h2 := fin_ge s i
   have h3 := fin_le (s := s) (p := i) qo
   have h4 := fin_le (s := s) (p := j - 1) qo
   have hlt : i < j := by
    by_cases e : i = j
    ·exact absurd ⟨e, rfl⟩ hne
    ·omega
   exact ⟨_, _, frs_le (hsh _ _ qo qo), fun ww => vDo_s v s _ i j p _ false ww hv2 (fun w2 => vShifted_piece v s i j _ _ w2 hs hlt hj rfl rfl hv2)⟩
 ·have hv3 : v = 117 ∨ v = 85 := by omega
  obtain ⟨q, hq, HB⟩ := vBack_ex s i j p l hs hij hj hp
  exact ⟨_, q, by rw [casS_size hij hj]; exact hq, fun ww => vDo_case v s i j p q l ww hs hij hj hv3 HB⟩
