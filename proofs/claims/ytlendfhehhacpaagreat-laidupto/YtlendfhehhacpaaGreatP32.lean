/- A part. -/
import Derived.Test.YtlendfhehhacpaaGreatP23
set_option linter.unusedVariables false
set_option linter.unusedSimpArgs false
set_option maxRecDepth 100000
set_option maxHeartbeats 8000000
namespace Go.Proofs.YtlendfhehhacpaaGreat
open Go.RowKit
def lem (s : ByteArray) (m : Nat) : Bool := Nib.att s m == Nib.fin s (Nib.att s m)
def alD (s : ByteArray) (E : Bool) : Nat → Nat → Nat
 | 0, m => m
 | n + 1, m => if lem s (m + 1) = E then alD s E n (m + 1) else m
def alU (s : ByteArray) (E : Bool) : Nat → Nat
 | 0 => 0
 | m + 1 => if lem s m = E then alU s E m else m + 1
theorem alD_le (s : ByteArray) (E : Bool) : ∀ n m, m ≤ alD s E n m ∧ alD s E n m ≤ m + n := by
 intro n
 induction n with
 | zero => intro m; exact ⟨Nat.le_refl _, Nat.le_refl _⟩
 | succ n ih =>
  intro m
  simp only [alD]
  split
  ·have := ih (m + 1); omega
  ·omega
theorem alU_le (s : ByteArray) (E : Bool) : ∀ m, alU s E m ≤ m := by
 intro m
 induction m with
 | zero => exact Nat.le_refl _
 | succ m ih =>
  simp only [alU]
  split <;> omega
theorem tBesideD (s : ByteArray) (a : Int) (m : Nat) (w : World) (hs : s.size ≤ 1000) (h : m + 1 < Nib.lns s) :
  qC 223 #[.string s, .agg #[.int .i64 (a), .int .i64 (Nib.fin s (Nib.att s m))], .int .i64 1] w (.tuple #[.agg #[.int .i64 (Nib.att s (m + 1)), .int .i64 (Nib.fin s (Nib.att s (m + 1)))], .bool true]) := by
 have h1 := Nib.fin_lt_of h
 have h2 := Nib.line_down h
 have HL : qH 195 #[.string s, .int .i64 (((Nib.fin s (Nib.att s m) : Nat) : Int) + 1)] (.agg #[.int .i64 (Nib.att s (m + 1)), .int .i64 (Nib.fin s (Nib.att s (m + 1)))]) := by
  intro ww
  have := tLine_any s (((Nib.fin s (Nib.att s m) : Nat) : Int) + 1) (Nib.fin s (Nib.att s m) + 1) ww hs qo qo
  rw [h2.1, h2.2] at this
  exact this
 clear h2
 generalize Nib.att s (m + 1) = A at *
 generalize Nib.fin s A = B at *
 generalize Nib.fin s (Nib.att s m) = F at *
 go_enter Tryz.func223, Tryz.ntmps223
 go_wp2_with fail
 refine (HL.out _).mono ?_
 rintro e w1 ⟨rfl, h1⟩
 obtain ⟨hc1, hf1, hz1⟩ := qb h1
 try simp at hz1
 go_wp2
 exact qV (.tuple #[.agg #[.int .i64 (A), .int .i64 (B)], .bool true]) (by simp [results, Tryz.results223, go_sem, hc1]) rfl
theorem fin_lastN {s : ByteArray} {m : Nat} (h : m < Nib.lns s) (h2 : ¬ m + 1 < Nib.lns s) : Nib.fin s (Nib.att s m) = s.size := Nib.fin_last qo
theorem tBes_dn (s : ByteArray) (a : Int) (y : Nat) (hs : s.size ≤ 1000) (hy : y < Nib.lns s) : ∃ (A B : Int), (y + 1 < Nib.lns s → A = Nib.att s (y + 1) ∧ B = Nib.fin s (Nib.att s (y + 1))) ∧ ∀ ww, qC 223 #[.string s, .agg #[.int .i64 (a), .int .i64 (Nib.fin s (Nib.att s y))], .int .i64 1] ww (.tuple #[.agg #[.int .i64 (A), .int .i64 (B)], .bool (decide (y + 1 < Nib.lns s))]) := by
 by_cases h : y + 1 < Nib.lns s
 ·refine ⟨_, _, fun _ => ⟨rfl, rfl⟩, fun ww => ?_⟩
  rw [decide_eq_true h]
  exact tBesideD s a y ww hs h
 ·refine ⟨0, 0, fun h2 => absurd h2 h, fun ww => ?_⟩
  rw [decide_eq_false h]
  exact tBeside_none s a _ 1 ww hs (Or.inl rfl) (fun _ => by rw [fin_lastN hy h]) (fun e => by cases e)
theorem tBes_up (s : ByteArray) (b : Int) (x : Nat) (hs : s.size ≤ 1000) (hx : x < Nib.lns s) : ∃ (A B : Int), (0 < x → A = Nib.att s (x - 1) ∧ B = Nib.fin s (Nib.att s (x - 1))) ∧ ∀ ww, qC 223 #[.string s, .agg #[.int .i64 (Nib.att s x), .int .i64 (b)], .int .i64 (-1)] ww (.tuple #[.agg #[.int .i64 (A), .int .i64 (B)], .bool (decide (0 < x))]) := by
 by_cases h : 0 < x
 ·refine ⟨_, _, fun _ => ⟨rfl, rfl⟩, fun ww => ?_⟩
  rw [decide_eq_true h]
  exact tBeside_up s _ b (-1) x ww hs rfl hx rfl h
 ·refine ⟨0, 0, fun h2 => absurd h2 h, fun ww => ?_⟩
  rw [decide_eq_false h]
  have hx0 : x = 0 := by omega
  subst hx0
  exact tBeside_none s _ b (-1) ww hs (Or.inr rfl) (fun e => by cases e) (fun _ => rfl)
theorem tEmp_line (s : ByteArray) (m : Nat) (w : World) :
  qC 185 #[.agg #[.int .i64 (Nib.att s m), .int .i64 (Nib.fin s (Nib.att s m))]] w (.bool (lem s m)) := by
 have := tIsEmpty_any (Nib.att s m) (Nib.fin s (Nib.att s m)) w
 rw [show (((Nib.att s m : Nat) : Int) == ((Nib.fin s (Nib.att s m) : Nat) : Int)) = lem s m by
  unfold lem
  by_cases e : Nib.att s m = Nib.fin s (Nib.att s m)
  ·rw [beq_iff_eq.2 e, beq_iff_eq.2 qo]
  ·rw [beq_eq_false_iff_ne.2 e, beq_eq_false_iff_ne.2 qo]] at this
 exact this
theorem att_monoO (s : ByteArray) (m : Nat) : ∀ n, Nib.att s m ≤ Nib.att s (m + n) := by
 intro n
 induction n with
 | zero => exact Nat.le_refl _
 | succ n ih =>
  have h : Nib.att s (m + (n + 1)) = Nib.fin s (Nib.att s (m + n)) + 1 := rfl
  have := Nib.fin_ge s (Nib.att s (m + n))
  omega
theorem qt43 {P : Prop} (h : P := by
  exact ⟨memLater h6 (memLater h5 (memLater ((Below.refl _ _).drew) n0)), memLater h6 (memLater h5 (memLater ((Below.refl _ _).drew) n1)), memLater h6 (memLater h5 (memLater ((Below.refl _ _).drew) l0)), memLater h6 (memLater h5 (memLater ((Below.refl _ _).drew) l1))⟩
 ) : P := h
theorem qt49 {P : Prop} (h : P := by
  exact ⟨memLater h5 (memLater ((Below.refl _ _).drew) n0), memLater h5 (memLater ((Below.refl _ _).drew) n1), memLater h5 (memLater ((Below.refl _ _).drew) l0), memLater h5 (memLater ((Below.refl _ _).drew) l1)⟩
 ) : P := h
theorem qt62 {P : Prop} (h : P := by
  exact ⟨memLater ((Below.refl _ _).drew) n0, memLater ((Below.refl _ _).drew) n1, memLater ((Below.refl _ _).drew) l0, memLater ((Below.refl _ _).drew) l1⟩
 ) : P := h
theorem oAlike (s : ByteArray) (m : Nat) (hs : s.size ≤ 1000) (hm : m < Nib.lns s) :
  ∃ x y : Nat, x ≤ m ∧ m ≤ y ∧ y < Nib.lns s ∧ ∀ ww, qC 262 #[.string s, .agg #[.int .i64 (Nib.att s m), .int .i64 (Nib.fin s (Nib.att s m))]] ww (.agg #[.int .i64 (Nib.att s x), .int .i64 (Nib.fin s (Nib.att s y))]) := by
 have hD := alD_le s (lem s m) (Nib.lns s - 1 - m) m
 have hU := alU_le s (lem s m) m
 obtain ⟨Y, hY⟩ : ∃ Y, alD s (lem s m) (Nib.lns s - 1 - m) m = Y := ⟨_, rfl⟩
 obtain ⟨X0, hX0⟩ : ∃ X0, alU s (lem s m) m = X0 := ⟨_, rfl⟩
 rw [hY] at hD
 rw [hX0] at hU
 have HY : Hid (alD s (lem s m) (Nib.lns s - 1 - m) m = Y) := hY
 have HX : Hid (alU s (lem s m) m = X0) := hX0
 clear hY hX0
 refine ⟨X0, Y, hU, hD.1, by omega, fun w => ?_⟩
 have HEm : qH 185 #[.agg #[.int .i64 (Nib.att s m), .int .i64 (Nib.fin s (Nib.att s m))]] (.bool (lem s m)) := fun ww => tEmp_line s m ww
 have hix0 : ∀ ww : World, (Instr.index 127 (.agg #[.int .i64 1, .int .i64 (-1)]) (.int .i64 0)).run Tryz.prog ww = .ok (.int .i64 1) ww := fun _ => by kernel_rfl
 have hix1 : ∀ ww : World, (Instr.index 127 (.agg #[.int .i64 1, .int .i64 (-1)]) (.int .i64 1)).run Tryz.prog ww = .ok (.int .i64 (-1)) ww := fun _ => by kernel_rfl
 go_enter Tryz.func262, Tryz.ntmps262
 go_wp2_with fail
 go_loopw [12] (fun iv wr => ∃ (k x y : Nat), iv = .int .i64 k ∧ ((k = 0 ∧ x = m ∧ y = m) ∨ (k = 1 ∧ x = m ∧ y = Y) ∨ (k = 2 ∧ x = X0 ∧ y = Y)) ∧ Two wr w.heap.size (Nib.att s m) (Nib.fin s (Nib.att s m)) ∧ Two wr (w.heap.size + 1) 0 0 ∧ Two wr (w.heap.size + 1 + 1) (Nib.att s x) (Nib.fin s (Nib.att s y)) ∧ Below w.heap.size w wr) (fun iv _ => 2 - (intOf iv).toNat)
 case atStart =>
  refine ⟨0, m, m, rfl, Or.inl ⟨rfl, rfl, rfl⟩, Two.alloc (Two.alloc (Two.new _ _ _ _) _) _, Two.alloc (by have := Two.new (w.alloc (.cells #[.int .i64 (Nib.att s m), .int .i64 (Nib.fin s (Nib.att s m))] 128)) 0 0 128; simpa using this) _, by have := Two.new ((w.alloc (.cells #[.int .i64 (Nib.att s m), .int .i64 (Nib.fin s (Nib.att s m))] 128)).alloc (.cells #[.int .i64 0, .int .i64 0] 128)) (Nib.att s m) (Nib.fin s (Nib.att s m)) 128; simpa using this, ?_⟩
  repeat exact qB
 case round =>
  obtain ⟨k, x, y, rfl, hkxy, L, Q, T, hB⟩ := hrel
  have zB := hB.size
  have l0 := L.c0; have l1 := L.c1; have ll := L.lt
  have ⟨q0, q1, qz, ql⟩ := Q
  have ⟨t0, t1, tz, tl⟩ := T
  rcases hkxy with ⟨ek, ex, ey⟩ | ⟨ek, ex, ey⟩ | ⟨ek, ex, ey⟩
  ·have ex := ex.symm
   have ey := ey.symm
   subst ek ex ey
   obtain ⟨A0, B0, hAB0, HB0⟩ := tBes_dn s (Nib.att s m) (m) hs hm
   have HB0 : qH 223 #[.string s, .agg #[.int .i64 (Nib.att s m), .int .i64 (Nib.fin s (Nib.att s (m)))], .int .i64 1] (.tuple #[.agg #[.int .i64 (A0), .int .i64 (B0)], .bool (decide (m + 1 < Nib.lns s))]) := HB0
   go_wp2_with fail
   refine (HB0.out _).mono ?_
   rintro r4 w4 ⟨rfl, h4⟩
   obtain ⟨hc4, hf4, hz4⟩ := qb h4
   (try simp at hz4)
   have L4 : Two w4 (w.heap.size) (Nib.att s m) (Nib.fin s (Nib.att s m)) := qTw
   have ⟨L4_0, L4_1, L4_z, L4_l⟩ := L4
   have Q4 : Two w4 (w.heap.size + 1) (0) (0) := qTw
   have ⟨Q4_0, Q4_1, Q4_z, Q4_l⟩ := Q4
   have T4 : Two w4 (w.heap.size + 1 + 1) (Nib.att s m) (Nib.fin s (Nib.att s (m))) := qTw
   have ⟨T4_0, T4_1, T4_z, T4_l⟩ := T4
   clear hc4 hf4
   have U4 : Below w.heap.size w w4 := by
    repeat exact qB
   go_wp2_with fail
   have N5 : Two (w4.alloc (.cells #[.int .i64 A0, .int .i64 B0] 128)) w4.heap.size A0 B0 := Two.new _ _ _ _
   have L5 := L4.alloc (.cells #[.int .i64 A0, .int .i64 B0] 128)
   have Q5 := Q4.alloc (.cells #[.int .i64 A0, .int .i64 B0] 128)
   have T5 := T4.alloc (.cells #[.int .i64 A0, .int .i64 B0] 128)
   have z4 := U4.size
   have U5 : Below w.heap.size w (w4.alloc (.cells #[.int .i64 A0, .int .i64 B0] 128)) := by
    repeat exact qB
   have ln4 : w.heap.size + 1 + 1 < w4.heap.size := T4.lt
   clear L4 Q4 T4 L4_0 L4_1 L4_z L4_l Q4_0 Q4_1 Q4_z Q4_l T4_0 T4_1 T4_z T4_l h4 U4 HB0 L Q T l0 l1 ll q0 q1 qz ql t0 t1 tz tl hB zB
   generalize (w4.alloc (.cells #[.int .i64 A0, .int .i64 B0] 128)) = W5 at *
   generalize w4.heap.size = nb at *
   go_loopg [9] (Nib.lns s - 1 - (m)) (fun g iv wx => ∃ (y : Nat) (A B : Int), m ≤ y ∧ y < Nib.lns s ∧ g = Nib.lns s - 1 - (y) ∧ (y + 1 < Nib.lns s → A = Nib.att s (y + 1) ∧ B = Nib.fin s (Nib.att s (y + 1))) ∧ iv = .bool (decide (y + 1 < Nib.lns s)) ∧ Hid (alD s (lem s m) (Nib.lns s - 1 - (y)) (y) = Y) ∧ Two wx w.heap.size (Nib.att s m) (Nib.fin s (Nib.att s m)) ∧ Two wx (w.heap.size + 1) 0 0 ∧ Two wx (w.heap.size + 1 + 1) (Nib.att s m) (Nib.fin s (Nib.att s (y))) ∧ Two wx nb A B ∧ Below w.heap.size w wx)
   case atStart => exact ⟨m, A0, B0, Nat.le_refl _, hm, rfl, hAB0, rfl, HY, L5, Q5, T5, N5, U5⟩
   case round =>
    clear N5 L5 Q5 T5 U5 HY hAB0
    obtain ⟨y, A, B, hy1, hy2, hg, hAB, rfl, HF, L, Q, T, N, hB⟩ := hrel
    have zB := hB.size
    have l0 := L.c0; have l1 := L.c1; have ll := L.lt
    have ⟨q0, q1, qz, ql⟩ := Q
    have ⟨t0, t1, tz, tl⟩ := T
    have ⟨n0, n1, nz, nl⟩ := N
    by_cases hc : y + 1 < Nib.lns s
    ·rw [decide_eq_true hc]
     obtain ⟨eA, eB⟩ := hAB hc
     subst eA eB
     have hEn := fun ww => tEmp_line s (y + 1) ww
     by_cases hE : lem s (y + 1) = lem s m
     ·rw [hE] at hEn
      have HEn : qH 185 #[.agg #[.int .i64 (Nib.att s (y + 1)), .int .i64 (Nib.fin s (Nib.att s (y + 1)))]] (.bool (lem s m)) := hEn
      have HF2 : Hid (alD s (lem s m) (Nib.lns s - 1 - (y + 1)) (y + 1) = Y) := by
       have := HF.out
       rw [show Nib.lns s - 1 - y = (Nib.lns s - 1 - (y + 1)) + 1 by omega] at this
       simp only [alD] at this
       rw [if_pos hE] at this
       exact this
      have m1 := att_monoO s (m) (y + 1 - m)
      rw [show m + (y + 1 - m) = y + 1 by omega] at m1
      have m2 : Nib.fin s (Nib.att s y) ≤ Nib.fin s (Nib.att s (y + 1)) := by
       have e : Nib.att s (y + 1) = Nib.fin s (Nib.att s y) + 1 := rfl
       have := Nib.fin_ge s (Nib.att s (y + 1))
       omega
      have HJ : qH 196 #[.agg #[.int .i64 (Nib.att s m), .int .i64 (Nib.fin s (Nib.att s (y)))], .agg #[.int .i64 (Nib.att s (y + 1)), .int .i64 (Nib.fin s (Nib.att s (y + 1)))]] (.agg #[.int .i64 (Nib.att s m), .int .i64 (Nib.fin s (Nib.att s (y + 1)))]) := by
       intro ww
       have := tJoin_nat (Nib.att s m) (Nib.fin s (Nib.att s (y))) (Nib.att s (y + 1)) (Nib.fin s (Nib.att s (y + 1))) ww
       rw [show min (Nib.att s m) (Nib.att s (y + 1)) = Nib.att s m by omega, show max (Nib.fin s (Nib.att s (y))) (Nib.fin s (Nib.att s (y + 1))) = Nib.fin s (Nib.att s (y + 1)) by omega] at this
       exact this
      obtain ⟨A2, B2, hAB2, HB2⟩ := tBes_dn s (Nib.att s m) (y + 1) hs hc
      have HB2 : qH 223 #[.string s, .agg #[.int .i64 (Nib.att s m), .int .i64 (Nib.fin s (Nib.att s (y + 1)))], .int .i64 1] (.tuple #[.agg #[.int .i64 (A2), .int .i64 (B2)], .bool (decide ((y + 1) + 1 < Nib.lns s))]) := HB2
      clear m1 m2 hE hAB HF
      go_wp2_with fail
      refine wp_region_held_drew (S := fun ww => ww.cell? ⟨nb, 0, none⟩ = some (.int .i64 (Nib.att s (y + 1))) ∧ ww.cell? ⟨nb, 1, none⟩ = some (.int .i64 (Nib.fin s (Nib.att s (y + 1)))) ∧ ww.cell? ⟨w.heap.size, 0, none⟩ = some (.int .i64 (Nib.att s m)) ∧ ww.cell? ⟨w.heap.size, 1, none⟩ = some (.int .i64 (Nib.fin s (Nib.att s m)))) qk ?_ (fun hHeld => ?_)
      ·exact qt62
      refine qT 0 ?_
      simp only [Act.put, qP]
      refine qT 1 ?_
      simp only [Act.put, qP]
      refine qT 2 ?_
      simp only [Act.put, qP]
      refine qT 4 ?_
      simp only [Act.put, qP]
      refine qR 3 fun K hK => ?_
      rw [if_pos (by rfl)]
      go_wp2_with fail
      refine (HEn.out _).mono ?_
      rintro r5 w5 ⟨rfl, h5⟩
      obtain ⟨hc5, hf5, hz5⟩ := qb h5
      (try simp at hz5)
      go_wp2_with fail
      refine hK.out _ _ ?_ (fun hHeld => ?_)
      ·exact qt49
      clear hK K
      try simp only [Act.put, qP]
      clear hc5 hf5
      refine qR 5 fun K hK => ?_
      rw [if_pos (by rfl)]
      go_wp2_with fail
      refine (HEm.out _).mono ?_
      rintro r6 w6 ⟨rfl, h6⟩
      obtain ⟨hc6, hf6, hz6⟩ := qb h6
      (try simp at hz6)
      go_wp2_with fail
      refine hK.out _ _ ?_ (fun hHeld => ?_)
      ·exact qt43
      clear hK K
      try simp only [Act.put, qP]
      clear hc6 hf6
      refine qT 6 ?_
      simp only [Act.put, qP]
      refine qT 7 ?_
      simp only [Act.put, qP]
      refine wpAnyH_done qk ?_ _
      have hB6 : Below w.heap.size w w6 := by
       repeat exact qB
      have z6 := hB6.size
      have L6 := ((L.drew).below h5).below h6
      have Q6 := ((Q.drew).below h5).below h6
      have T6 := ((T.drew).below h5).below h6
      have N6 := ((N.drew).below h5).below h6
      clear L Q T N l0 l1 ll q0 q1 qz ql t0 t1 tz tl n0 n1 nz nl hB zB h5 h6
      have ⟨q0, q1, qz, ql⟩ := Q6
      have ⟨t0, t1, tz, tl⟩ := T6
      have ⟨n0, n1, nz, nl⟩ := N6
      go_wp2_with fail
      refine (HJ.out _).mono ?_
      rintro e w7 ⟨rfl, h7⟩
      obtain ⟨hc7, hf7, hz7⟩ := qb h7
      try simp at hz7
      have L7 := L6.below h7; have Q7 := Q6.below h7; have T7 := T6.below h7; have N7 := N6.below h7
      have z7 := h7.size
      clear hc7 hf7 L6 Q6 T6 N6 q0 q1 qz ql t0 t1 tz tl n0 n1 nz nl
      have ⟨t0, t1, tz, tl⟩ := T7
      have ⟨n0, n1, nz, nl⟩ := N7
      have hB7 : Below w.heap.size w w7 := by
       repeat exact qB
      have T8 : Two ((w7.setCell ⟨w.heap.size + 1 + 1, 0, none⟩ (.int .i64 (Nib.att s m))).setCell ⟨w.heap.size + 1 + 1, 1, none⟩ (.int .i64 (Nib.fin s (Nib.att s (y + 1))))) (w.heap.size + 1 + 1) (Nib.att s m) (Nib.fin s (Nib.att s (y + 1))) := Two.set1 (Two.set0 T7 _) _
      have L8 : Two ((w7.setCell ⟨w.heap.size + 1 + 1, 0, none⟩ (.int .i64 (Nib.att s m))).setCell ⟨w.heap.size + 1 + 1, 1, none⟩ (.int .i64 (Nib.fin s (Nib.att s (y + 1))))) w.heap.size (Nib.att s m) (Nib.fin s (Nib.att s m)) := Two.other (Two.other L7 qf _) qf _
      have Q8 : Two ((w7.setCell ⟨w.heap.size + 1 + 1, 0, none⟩ (.int .i64 (Nib.att s m))).setCell ⟨w.heap.size + 1 + 1, 1, none⟩ (.int .i64 (Nib.fin s (Nib.att s (y + 1))))) (w.heap.size + 1) 0 0 := Two.other (Two.other Q7 qf _) qf _
      have N8 : Two ((w7.setCell ⟨w.heap.size + 1 + 1, 0, none⟩ (.int .i64 (Nib.att s m))).setCell ⟨w.heap.size + 1 + 1, 1, none⟩ (.int .i64 (Nib.fin s (Nib.att s (y + 1))))) nb (Nib.att s (y + 1)) (Nib.fin s (Nib.att s (y + 1))) := Two.other (Two.other N7 qf _) qf _
      have hB8 : Below w.heap.size w ((w7.setCell ⟨w.heap.size + 1 + 1, 0, none⟩ (.int .i64 (Nib.att s m))).setCell ⟨w.heap.size + 1 + 1, 1, none⟩ (.int .i64 (Nib.fin s (Nib.att s (y + 1))))) := Below.setCell (Below.setCell hB7 qf _) qf _
      have x0 := T8.c0; have x1 := T8.c1
      go_wp2_with fail
      refine (HB2.out _).mono ?_
      rintro e w9 ⟨rfl, h9⟩
      obtain ⟨hc9, hf9, hz9⟩ := qb h9
      try simp at hz9
      have L9 := L8.below h9; have Q9 := Q8.below h9; have T9 := T8.below h9; have N9 := N8.below h9
      have hB9 : Below w.heap.size w w9 := hB8.trans (h9.mono hB8.size)
      have ⟨m0, m1, mz, ml⟩ := N9
      clear hc9 hf9
      go_wp2
      go_roundg (Nib.lns s - 1 - (y + 1))
      case measure => omega
      case rel => exact ⟨y + 1, A2, B2, by omega, hc, rfl, hAB2, rfl, HF2, Two.other (Two.other L9 qf _) qf _, Two.other (Two.other Q9 qf _) qf _, Two.other (Two.other T9 qf _) qf _, Two.set1 (Two.set0 N9 _) _, Below.setCell (Below.setCell hB9 qf _) qf _⟩
     ·have HEn : qH 185 #[.agg #[.int .i64 (Nib.att s (y + 1)), .int .i64 (Nib.fin s (Nib.att s (y + 1)))]] (.bool (lem s (y + 1))) := hEn
      have eY : Hid (y = Y) := by
       have := HF.out
       rw [show Nib.lns s - 1 - y = (Nib.lns s - 1 - (y + 1)) + 1 by omega] at this
       simp only [alD] at this
       rw [if_neg hE] at this
       exact this
      have hE2 : (lem s (y + 1) == lem s m) = false := by simp [hE]
      generalize lem s (y + 1) = e1 at *
      have HEm2 := HEm
      generalize lem s m = e2 at *
      clear HF
      go_wp2_with fail
      refine wp_region_held_drew (S := fun ww => ww.cell? ⟨nb, 0, none⟩ = some (.int .i64 (Nib.att s (y + 1))) ∧ ww.cell? ⟨nb, 1, none⟩ = some (.int .i64 (Nib.fin s (Nib.att s (y + 1)))) ∧ ww.cell? ⟨w.heap.size, 0, none⟩ = some (.int .i64 (Nib.att s m)) ∧ ww.cell? ⟨w.heap.size, 1, none⟩ = some (.int .i64 (Nib.fin s (Nib.att s m)))) qk ?_ (fun hHeld => ?_)
      ·exact qt62
      refine qT 0 ?_
      simp only [Act.put, qP]
      refine qT 1 ?_
      simp only [Act.put, qP]
      refine qT 2 ?_
      simp only [Act.put, qP]
      refine qT 4 ?_
      simp only [Act.put, qP]
      refine qR 3 fun K hK => ?_
      rw [if_pos (by rfl)]
      go_wp2_with fail
      refine (HEn.out _).mono ?_
      rintro r5 w5 ⟨rfl, h5⟩
      obtain ⟨hc5, hf5, hz5⟩ := qb h5
      (try simp at hz5)
      go_wp2_with fail
      refine hK.out _ _ ?_ (fun hHeld => ?_)
      ·exact qt49
      clear hK K
      try simp only [Act.put, qP]
      clear hc5 hf5
      refine qR 5 fun K hK => ?_
      rw [if_pos (by rfl)]
      go_wp2_with fail
      refine (HEm.out _).mono ?_
      rintro r6 w6 ⟨rfl, h6⟩
      obtain ⟨hc6, hf6, hz6⟩ := qb h6
      (try simp at hz6)
      go_wp2_with fail
      refine hK.out _ _ ?_ (fun hHeld => ?_)
      ·exact qt43
      clear hK K
      try simp only [Act.put, qP]
      clear hc6 hf6
      refine qT 6 ?_
      simp only [Act.put, qP]
      refine qT 7 ?_
      simp only [Act.put, qP]
      refine wpAnyH_done qk ?_ _
      have hB6 : Below w.heap.size w w6 := by
       repeat exact qB
      have z6 := hB6.size
      have L6 := ((L.drew).below h5).below h6
      have Q6 := ((Q.drew).below h5).below h6
      have T6 := ((T.drew).below h5).below h6
      have N6 := ((N.drew).below h5).below h6
      clear L Q T N l0 l1 ll q0 q1 qz ql t0 t1 tz tl n0 n1 nz nl hB zB h5 h6
      have ⟨q0, q1, qz, ql⟩ := Q6
      have ⟨t0, t1, tz, tl⟩ := T6
      have ⟨n0, n1, nz, nl⟩ := N6
      have eY := eY.out
      subst eY
      go_wp2
      go_round
      case rel => exact ⟨1, m, y, by go_num, Or.inr (Or.inl ⟨rfl, rfl, rfl⟩), L6, Q6, T6, hB6⟩
      case measure => simp [intOf] <;> omega
    ·rw [decide_eq_false hc]
     have eY : y = Y := by
      have := HF.out
      rw [show Nib.lns s - 1 - y = 0 by omega] at this
      exact this
     subst eY
     go_wp2_with fail
     refine wp_region_held_drew (S := fun ww => ww.cell? ⟨w.heap.size, 0, none⟩ = some (.int .i64 (Nib.att s m))) qk ?_ (fun hHeld => ?_)
     ·exact memLater ((Below.refl _ _).drew) l0
     refine qT 0 ?_
     simp only [Act.put, qP]
     refine qT 1 ?_
     simp only [Act.put, qP]
     refine qS 2 ?_
     simp only [Act.put, qP]
     refine qS 3 ?_
     simp only [Act.put, qP]
     refine qS 4 ?_
     simp only [Act.put, qP]
     refine qS 5 ?_
     simp only [Act.put, qP]
     refine qS 6 ?_
     simp only [Act.put, qP]
     refine qT 7 ?_
     simp only [Act.put, qP]
     refine wpAnyH_done qk ?_ _
     go_wp2
     go_round
     case rel => exact ⟨1, m, y, by go_num, Or.inr (Or.inl ⟨rfl, rfl, rfl⟩), L.drew, Q.drew, T.drew, hB.drew⟩
     case measure => simp [intOf] <;> omega
  ·have ex := ex.symm
   have ey := ey.symm
   subst ek ex ey
   obtain ⟨A0, B0, hAB0, HB0⟩ := tBes_up s (Nib.fin s (Nib.att s Y)) (m) hs hm
   have HB0 : qH 223 #[.string s, .agg #[.int .i64 (Nib.att s (m)), .int .i64 (Nib.fin s (Nib.att s Y))], .int .i64 (-1)] (.tuple #[.agg #[.int .i64 (A0), .int .i64 (B0)], .bool (decide (0 < m))]) := HB0
   go_wp2_with fail
   refine (HB0.out _).mono ?_
   rintro r4 w4 ⟨rfl, h4⟩
   obtain ⟨hc4, hf4, hz4⟩ := qb h4
   (try simp at hz4)
   have L4 : Two w4 (w.heap.size) (Nib.att s m) (Nib.fin s (Nib.att s m)) := qTw
   have ⟨L4_0, L4_1, L4_z, L4_l⟩ := L4
   have Q4 : Two w4 (w.heap.size + 1) (0) (0) := qTw
   have ⟨Q4_0, Q4_1, Q4_z, Q4_l⟩ := Q4
   have T4 : Two w4 (w.heap.size + 1 + 1) (Nib.att s (m)) (Nib.fin s (Nib.att s Y)) := qTw
   have ⟨T4_0, T4_1, T4_z, T4_l⟩ := T4
   clear hc4 hf4
   have U4 : Below w.heap.size w w4 := by
    repeat exact qB
   go_wp2_with fail
   have N5 : Two (w4.alloc (.cells #[.int .i64 A0, .int .i64 B0] 128)) w4.heap.size A0 B0 := Two.new _ _ _ _
   have L5 := L4.alloc (.cells #[.int .i64 A0, .int .i64 B0] 128)
   have Q5 := Q4.alloc (.cells #[.int .i64 A0, .int .i64 B0] 128)
   have T5 := T4.alloc (.cells #[.int .i64 A0, .int .i64 B0] 128)
   have z4 := U4.size
   have U5 : Below w.heap.size w (w4.alloc (.cells #[.int .i64 A0, .int .i64 B0] 128)) := by
    repeat exact qB
   have ln4 : w.heap.size + 1 + 1 < w4.heap.size := T4.lt
   clear L4 Q4 T4 L4_0 L4_1 L4_z L4_l Q4_0 Q4_1 Q4_z Q4_l T4_0 T4_1 T4_z T4_l h4 U4 HB0 L Q T l0 l1 ll q0 q1 qz ql t0 t1 tz tl hB zB
   generalize (w4.alloc (.cells #[.int .i64 A0, .int .i64 B0] 128)) = W5 at *
   generalize w4.heap.size = nb at *
   go_loopg [9] (m) (fun g iv wx => ∃ (x : Nat) (A B : Int), x ≤ m ∧ g = x ∧ (0 < x → A = Nib.att s (x - 1) ∧ B = Nib.fin s (Nib.att s (x - 1))) ∧ iv = .bool (decide (0 < x)) ∧ Hid (alU s (lem s m) (x) = X0) ∧ Two wx w.heap.size (Nib.att s m) (Nib.fin s (Nib.att s m)) ∧ Two wx (w.heap.size + 1) 0 0 ∧ Two wx (w.heap.size + 1 + 1) (Nib.att s (x)) (Nib.fin s (Nib.att s Y)) ∧ Two wx nb A B ∧ Below w.heap.size w wx)
   case atStart => exact ⟨m, A0, B0, Nat.le_refl _, rfl, hAB0, rfl, HX, L5, Q5, T5, N5, U5⟩
   case round =>
    clear N5 L5 Q5 T5 U5 HX hAB0
    obtain ⟨x, A, B, hy1, hg, hAB, rfl, HF, L, Q, T, N, hB⟩ := hrel
    have zB := hB.size
    have l0 := L.c0; have l1 := L.c1; have ll := L.lt
    have ⟨q0, q1, qz, ql⟩ := Q
    have ⟨t0, t1, tz, tl⟩ := T
    have ⟨n0, n1, nz, nl⟩ := N
    by_cases hc : 0 < x
    ·rw [decide_eq_true hc]
     obtain ⟨eA, eB⟩ := hAB hc
     subst eA eB
     have hEn := fun ww => tEmp_line s (x - 1) ww
     by_cases hE : lem s (x - 1) = lem s m
     ·rw [hE] at hEn
      have HEn : qH 185 #[.agg #[.int .i64 (Nib.att s (x - 1)), .int .i64 (Nib.fin s (Nib.att s (x - 1)))]] (.bool (lem s m)) := hEn
      have HF2 : Hid (alU s (lem s m) (x - 1) = X0) := by
       have := HF.out
       rw [show x = (x - 1) + 1 by omega] at this
       simp only [alU] at this
       rw [if_pos hE] at this
       exact this
      have m1 := att_monoO s (x - 1) (1)
      rw [show x - 1 + 1 = x by omega] at m1
      have m2 : Nib.fin s (Nib.att s (x - 1)) ≤ Nib.fin s (Nib.att s Y) := by
       have e : Nib.att s (x - 1 + 1) = Nib.fin s (Nib.att s (x - 1)) + 1 := rfl
       have k1 := att_monoO s (x - 1 + 1) (Y - (x - 1 + 1))
       rw [show x - 1 + 1 + (Y - (x - 1 + 1)) = Y by omega] at k1
       have := Nib.fin_ge s (Nib.att s Y)
       omega
      have HJ : qH 196 #[.agg #[.int .i64 (Nib.att s (x)), .int .i64 (Nib.fin s (Nib.att s Y))], .agg #[.int .i64 (Nib.att s (x - 1)), .int .i64 (Nib.fin s (Nib.att s (x - 1)))]] (.agg #[.int .i64 (Nib.att s (x - 1)), .int .i64 (Nib.fin s (Nib.att s Y))]) := by
       intro ww
       have := tJoin_nat (Nib.att s (x)) (Nib.fin s (Nib.att s Y)) (Nib.att s (x - 1)) (Nib.fin s (Nib.att s (x - 1))) ww
       rw [show min (Nib.att s (x)) (Nib.att s (x - 1)) = Nib.att s (x - 1) by omega, show max (Nib.fin s (Nib.att s Y)) (Nib.fin s (Nib.att s (x - 1))) = Nib.fin s (Nib.att s Y) by omega] at this
       exact this
      obtain ⟨A2, B2, hAB2, HB2⟩ := tBes_up s (Nib.fin s (Nib.att s Y)) (x - 1) hs qo
      have HB2 : qH 223 #[.string s, .agg #[.int .i64 (Nib.att s (x - 1)), .int .i64 (Nib.fin s (Nib.att s Y))], .int .i64 (-1)] (.tuple #[.agg #[.int .i64 (A2), .int .i64 (B2)], .bool (decide (0 < (x - 1)))]) := HB2
      clear m1 m2 hE hAB HF
      go_wp2_with fail
      refine wp_region_held_drew (S := fun ww => ww.cell? ⟨nb, 0, none⟩ = some (.int .i64 (Nib.att s (x - 1))) ∧ ww.cell? ⟨nb, 1, none⟩ = some (.int .i64 (Nib.fin s (Nib.att s (x - 1)))) ∧ ww.cell? ⟨w.heap.size, 0, none⟩ = some (.int .i64 (Nib.att s m)) ∧ ww.cell? ⟨w.heap.size, 1, none⟩ = some (.int .i64 (Nib.fin s (Nib.att s m)))) qk ?_ (fun hHeld => ?_)
      ·exact qt62
      refine qT 0 ?_
      simp only [Act.put, qP]
      refine qT 1 ?_
      simp only [Act.put, qP]
      refine qT 2 ?_
      simp only [Act.put, qP]
      refine qT 4 ?_
      simp only [Act.put, qP]
      refine qR 3 fun K hK => ?_
      rw [if_pos (by rfl)]
      go_wp2_with fail
      refine (HEn.out _).mono ?_
      rintro r5 w5 ⟨rfl, h5⟩
      obtain ⟨hc5, hf5, hz5⟩ := qb h5
      (try simp at hz5)
      go_wp2_with fail
      refine hK.out _ _ ?_ (fun hHeld => ?_)
      ·exact qt49
      clear hK K
      try simp only [Act.put, qP]
      clear hc5 hf5
      refine qR 5 fun K hK => ?_
      rw [if_pos (by rfl)]
      go_wp2_with fail
      refine (HEm.out _).mono ?_
      rintro r6 w6 ⟨rfl, h6⟩
      obtain ⟨hc6, hf6, hz6⟩ := qb h6
      (try simp at hz6)
      go_wp2_with fail
      refine hK.out _ _ ?_ (fun hHeld => ?_)
      ·exact qt43
      clear hK K
      try simp only [Act.put, qP]
      clear hc6 hf6
      refine qT 6 ?_
      simp only [Act.put, qP]
      refine qT 7 ?_
      simp only [Act.put, qP]
      refine wpAnyH_done qk ?_ _
      have hB6 : Below w.heap.size w w6 := by
       repeat exact qB
      have z6 := hB6.size
      have L6 := ((L.drew).below h5).below h6
      have Q6 := ((Q.drew).below h5).below h6
      have T6 := ((T.drew).below h5).below h6
      have N6 := ((N.drew).below h5).below h6
      clear L Q T N l0 l1 ll q0 q1 qz ql t0 t1 tz tl n0 n1 nz nl hB zB h5 h6
      have ⟨q0, q1, qz, ql⟩ := Q6
      have ⟨t0, t1, tz, tl⟩ := T6
      have ⟨n0, n1, nz, nl⟩ := N6
      go_wp2_with fail
      refine (HJ.out _).mono ?_
      rintro e w7 ⟨rfl, h7⟩
      obtain ⟨hc7, hf7, hz7⟩ := qb h7
      try simp at hz7
      have L7 := L6.below h7; have Q7 := Q6.below h7; have T7 := T6.below h7; have N7 := N6.below h7
      have z7 := h7.size
      clear hc7 hf7 L6 Q6 T6 N6 q0 q1 qz ql t0 t1 tz tl n0 n1 nz nl
      have ⟨t0, t1, tz, tl⟩ := T7
      have ⟨n0, n1, nz, nl⟩ := N7
      have hB7 : Below w.heap.size w w7 := by
       repeat exact qB
      have T8 : Two ((w7.setCell ⟨w.heap.size + 1 + 1, 0, none⟩ (.int .i64 (Nib.att s (x - 1)))).setCell ⟨w.heap.size + 1 + 1, 1, none⟩ (.int .i64 (Nib.fin s (Nib.att s Y)))) (w.heap.size + 1 + 1) (Nib.att s (x - 1)) (Nib.fin s (Nib.att s Y)) := Two.set1 (Two.set0 T7 _) _
      have L8 : Two ((w7.setCell ⟨w.heap.size + 1 + 1, 0, none⟩ (.int .i64 (Nib.att s (x - 1)))).setCell ⟨w.heap.size + 1 + 1, 1, none⟩ (.int .i64 (Nib.fin s (Nib.att s Y)))) w.heap.size (Nib.att s m) (Nib.fin s (Nib.att s m)) := Two.other (Two.other L7 qf _) qf _
      have Q8 : Two ((w7.setCell ⟨w.heap.size + 1 + 1, 0, none⟩ (.int .i64 (Nib.att s (x - 1)))).setCell ⟨w.heap.size + 1 + 1, 1, none⟩ (.int .i64 (Nib.fin s (Nib.att s Y)))) (w.heap.size + 1) 0 0 := Two.other (Two.other Q7 qf _) qf _
      have N8 : Two ((w7.setCell ⟨w.heap.size + 1 + 1, 0, none⟩ (.int .i64 (Nib.att s (x - 1)))).setCell ⟨w.heap.size + 1 + 1, 1, none⟩ (.int .i64 (Nib.fin s (Nib.att s Y)))) nb (Nib.att s (x - 1)) (Nib.fin s (Nib.att s (x - 1))) := Two.other (Two.other N7 qf _) qf _
      have hB8 : Below w.heap.size w ((w7.setCell ⟨w.heap.size + 1 + 1, 0, none⟩ (.int .i64 (Nib.att s (x - 1)))).setCell ⟨w.heap.size + 1 + 1, 1, none⟩ (.int .i64 (Nib.fin s (Nib.att s Y)))) := Below.setCell (Below.setCell hB7 qf _) qf _
      have x0 := T8.c0; have x1 := T8.c1
      go_wp2_with fail
      refine (HB2.out _).mono ?_
      rintro e w9 ⟨rfl, h9⟩
      obtain ⟨hc9, hf9, hz9⟩ := qb h9
      try simp at hz9
      have L9 := L8.below h9; have Q9 := Q8.below h9; have T9 := T8.below h9; have N9 := N8.below h9
      have hB9 : Below w.heap.size w w9 := hB8.trans (h9.mono hB8.size)
      have ⟨m0, m1, mz, ml⟩ := N9
      clear hc9 hf9
      go_wp2
      go_roundg (x - 1)
      case measure => omega
      case rel => exact ⟨x - 1, A2, B2, by omega, rfl, hAB2, rfl, HF2, Two.other (Two.other L9 qf _) qf _, Two.other (Two.other Q9 qf _) qf _, Two.other (Two.other T9 qf _) qf _, Two.set1 (Two.set0 N9 _) _, Below.setCell (Below.setCell hB9 qf _) qf _⟩
     ·have HEn : qH 185 #[.agg #[.int .i64 (Nib.att s (x - 1)), .int .i64 (Nib.fin s (Nib.att s (x - 1)))]] (.bool (lem s (x - 1))) := hEn
      have eY : Hid (x = X0) := by
       have := HF.out
       rw [show x = (x - 1) + 1 by omega] at this
       simp only [alU] at this
       rw [if_neg hE] at this
       rw [Hid]
       omega
      have hE2 : (lem s (x - 1) == lem s m) = false := by simp [hE]
      generalize lem s (x - 1) = e1 at *
      have HEm2 := HEm
      generalize lem s m = e2 at *
      clear HF
      go_wp2_with fail
      refine wp_region_held_drew (S := fun ww => ww.cell? ⟨nb, 0, none⟩ = some (.int .i64 (Nib.att s (x - 1))) ∧ ww.cell? ⟨nb, 1, none⟩ = some (.int .i64 (Nib.fin s (Nib.att s (x - 1)))) ∧ ww.cell? ⟨w.heap.size, 0, none⟩ = some (.int .i64 (Nib.att s m)) ∧ ww.cell? ⟨w.heap.size, 1, none⟩ = some (.int .i64 (Nib.fin s (Nib.att s m)))) qk ?_ (fun hHeld => ?_)
      ·exact qt62
      refine qT 0 ?_
      simp only [Act.put, qP]
      refine qT 1 ?_
      simp only [Act.put, qP]
      refine qT 2 ?_
      simp only [Act.put, qP]
      refine qT 4 ?_
      simp only [Act.put, qP]
      refine qR 3 fun K hK => ?_
      rw [if_pos (by rfl)]
      go_wp2_with fail
      refine (HEn.out _).mono ?_
      rintro r5 w5 ⟨rfl, h5⟩
      obtain ⟨hc5, hf5, hz5⟩ := qb h5
      (try simp at hz5)
      go_wp2_with fail
      refine hK.out _ _ ?_ (fun hHeld => ?_)
      ·exact qt49
      clear hK K
      try simp only [Act.put, qP]
      clear hc5 hf5
      refine qR 5 fun K hK => ?_
      rw [if_pos (by rfl)]
      go_wp2_with fail
      refine (HEm.out _).mono ?_
      rintro r6 w6 ⟨rfl, h6⟩
      obtain ⟨hc6, hf6, hz6⟩ := qb h6
      (try simp at hz6)
      go_wp2_with fail
      refine hK.out _ _ ?_ (fun hHeld => ?_)
      ·exact qt43
      clear hK K
      try simp only [Act.put, qP]
      clear hc6 hf6
      refine qT 6 ?_
      simp only [Act.put, qP]
      refine qT 7 ?_
      simp only [Act.put, qP]
      refine wpAnyH_done qk ?_ _
      have hB6 : Below w.heap.size w w6 := by
       repeat exact qB
      have z6 := hB6.size
      have L6 := ((L.drew).below h5).below h6
      have Q6 := ((Q.drew).below h5).below h6
      have T6 := ((T.drew).below h5).below h6
      have N6 := ((N.drew).below h5).below h6
      clear L Q T N l0 l1 ll q0 q1 qz ql t0 t1 tz tl n0 n1 nz nl hB zB h5 h6
      have ⟨q0, q1, qz, ql⟩ := Q6
      have ⟨t0, t1, tz, tl⟩ := T6
      have ⟨n0, n1, nz, nl⟩ := N6
      have eY := eY.out
      subst eY
      go_wp2
      go_round
      case rel => exact ⟨2, x, Y, by go_num, Or.inr (Or.inr ⟨rfl, rfl, rfl⟩), L6, Q6, T6, hB6⟩
      case measure => simp [intOf] <;> omega
    ·rw [decide_eq_false hc]
     have eY : x = X0 := by
      have := HF.out
      rw [show x = 0 by omega] at this
      rw [show x = 0 by omega]
      exact this
     subst eY
     go_wp2_with fail
     refine wp_region_held_drew (S := fun ww => ww.cell? ⟨w.heap.size, 0, none⟩ = some (.int .i64 (Nib.att s m))) qk ?_ (fun hHeld => ?_)
     ·exact memLater ((Below.refl _ _).drew) l0
     refine qT 0 ?_
     simp only [Act.put, qP]
     refine qT 1 ?_
     simp only [Act.put, qP]
     refine qS 2 ?_
     simp only [Act.put, qP]
     refine qS 3 ?_
     simp only [Act.put, qP]
     refine qS 4 ?_
     simp only [Act.put, qP]
     refine qS 5 ?_
     simp only [Act.put, qP]
     refine qS 6 ?_
     simp only [Act.put, qP]
     refine qT 7 ?_
     simp only [Act.put, qP]
     refine wpAnyH_done qk ?_ _
     go_wp2
     go_round
     case rel => exact ⟨2, x, Y, by go_num, Or.inr (Or.inr ⟨rfl, rfl, rfl⟩), L.drew, Q.drew, T.drew, hB.drew⟩
     case measure => simp [intOf] <;> omega
  ·have ex := ex.symm
   have ey := ey.symm
   subst ek ex ey
   go_wp2
   exact qV (.agg #[.int .i64 (Nib.att s X0), .int .i64 (Nib.fin s (Nib.att s Y))]) (by simp [results, Tryz.results262, go_sem, q0, q1, qz, ql]) rfl
end Go.Proofs.YtlendfhehhacpaaGreat
