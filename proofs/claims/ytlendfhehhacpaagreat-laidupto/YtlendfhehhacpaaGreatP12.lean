/- A part. -/
import Derived.Test.YtlendfhehhacpaaGreatP06
import Derived.Test.YtlendfhehhacpaaGreatP05
import Derived.Test.YtlendfhehhacpaaGreatP11
set_option linter.unusedVariables false
set_option linter.unusedSimpArgs false
set_option maxRecDepth 100000
set_option maxHeartbeats 8000000
namespace Go.Proofs.YtlendfhehhacpaaGreat
open Go.RowKit
theorem qt83 {P : Prop} (h : P := by
  go_wp2
  refine bodyPost_ret (v := .int .i64 q) (by simp [results, Tryz.results250, go_sem]) rfl ⟨rfl, ?_⟩
  repeat (with_reducible first | exact Below.refl _ _ | refine b_s ?_ _ | refine b_a ?_ _ | refine Below.drew ?_ | refine below_drewN ?_ _ | refine b_t ?_ h2 | refine b_t ?_ h1)
 ) : P := h
theorem sKept_same (s : ByteArray) (p q C D : Nat) (w : World)
  (G1 : qH 195 #[.string s, .int .i64 p] (.agg #[.int .i64 (C), .int .i64 (D)]))
  (G2 : qH 195 #[.string s, .int .i64 q] (.agg #[.int .i64 (C), .int .i64 (D)])) :
  qC 250 #[.string s, .int .i64 p, .int .i64 q] w (.int .i64 q) := by
 have HQ : ∀ ww, (binOp .neq 128 (.agg #[.int .i64 (C), .int .i64 (D)]) (.agg #[.int .i64 (C), .int .i64 (D)])).run Tryz.prog ww = .ok (.bool false) ww := by intro ww; rw [neq_two]; simp
 go_enter Tryz.func250, Tryz.ntmps250
 go_wp2_with fail
 refine (G1.out _).mono ?_
 rintro e w1 ⟨rfl, h1⟩
 obtain ⟨hc1, hf1, hz1⟩ := qb h1
 try simp at hz1
 go_wp2_with fail
 refine wp_region_held_drew (S := fun ww => ww.cell? ⟨w1.heap.size, 0, none⟩ = some (.int .i64 C) ∧ ww.cell? ⟨w1.heap.size, 1, none⟩ = some (.int .i64 D)) qk ?_ (fun hHeld => ?_)
 ·refine ⟨?_, ?_⟩ <;> go_simp
 refine qT 0 ?_
 try simp only [Act.put, qP]
 refine qT 1 ?_
 try simp only [Act.put, qP]
 refine qT 3 ?_
 try simp only [Act.put, qP]
 refine qR 2 fun K hK => ?_
 rw [if_pos (by rfl)]
 go_wp2_with fail
 refine (G2.out _).mono ?_
 rintro r2 w2 ⟨rfl, h2⟩
 obtain ⟨hc2, hf2, hz2⟩ := qb h2
 (try simp at hz2)
 go_wp2_with fail
 refine hK.out _ _ ?_ (fun hHeld => ?_)
 ·refine ⟨(hc2 _ _ qi).trans hHeld.1, (hc2 _ _ qi).trans hHeld.2⟩
 clear hK K
 try simp only [Act.put, qP]
 refine qT 4 ?_
 try simp only [Act.put, qP]
 refine qT 5 ?_
 try simp only [Act.put, qP]
 refine qS 6 ?_
 try simp only [Act.put, qP]
 refine qS 7 ?_
 try simp only [Act.put, qP]
 refine qS 8 ?_
 try simp only [Act.put, qP]
 refine qS 9 ?_
 try simp only [Act.put, qP]
 refine qT 10 ?_
 try simp only [Act.put, qP]
 refine wpAnyH_done qk ?_ _
 exact qt83
theorem sKept_other (s : ByteArray) (p q A B C D : Nat) (w : World) (hx : ¬ (C = A ∧ D = B))
  (G1 : qH 195 #[.string s, .int .i64 p] (.agg #[.int .i64 (A), .int .i64 (B)]))
  (G2 : qH 195 #[.string s, .int .i64 q] (.agg #[.int .i64 (C), .int .i64 (D)])) :
  qC 250 #[.string s, .int .i64 p, .int .i64 q] w (.int .i64 ((if p = B then q else B : Nat) : Int)) := by
 have HQ : ∀ ww, (binOp .neq 128 (.agg #[.int .i64 (C), .int .i64 (D)]) (.agg #[.int .i64 (A), .int .i64 (B)])).run Tryz.prog ww = .ok (.bool true) ww := by
  intro ww; rw [neq_two]; congr 2; simp only [Bool.not_eq_true', Bool.and_eq_false_imp, beq_iff_eq, beq_eq_false_iff_ne]; omega
 clear hx
 by_cases hpB : p = B
 ·rw [if_pos hpB]
  subst hpB
  go_enter Tryz.func250, Tryz.ntmps250
  go_wp2_with fail
  refine (G1.out _).mono ?_
  rintro e w1 ⟨rfl, h1⟩
  obtain ⟨hc1, hf1, hz1⟩ := qb h1
  try simp at hz1
  go_wp2_with fail
  go_wp2_with fail
  go_region_held3 (fun ww => ww.cell? ⟨w1.heap.size, 0, none⟩ = some (.int .i64 A) ∧ ww.cell? ⟨w1.heap.size, 1, none⟩ = some (.int .i64 p)) ((refine ⟨?_, ?_⟩ <;> go_simp)) ((go_at_call 195; refine (G2.out _).mono ?_; rintro r2 w2 ⟨rfl, h2⟩; obtain ⟨hc2, hf2, hz2⟩ := qb h2; (try simp at hz2); (try have ⟨hl2_0, hk2_0⟩ := qL w1.heap.size w2.heap.size)))
  exact qt83
 ·rw [if_neg hpB]
  have hb : ((p : Int) = B) = False := by simp; omega
  clear hpB
  go_enter Tryz.func250, Tryz.ntmps250
  go_wp2_with fail
  refine (G1.out _).mono ?_
  rintro e w1 ⟨rfl, h1⟩
  obtain ⟨hc1, hf1, hz1⟩ := qb h1
  try simp at hz1
  go_wp2_with fail
  go_wp2_with fail
  go_region_held3 (fun ww => ww.cell? ⟨w1.heap.size, 0, none⟩ = some (.int .i64 A) ∧ ww.cell? ⟨w1.heap.size, 1, none⟩ = some (.int .i64 B)) ((refine ⟨?_, ?_⟩ <;> go_simp)) ((go_at_call 195; refine (G2.out _).mono ?_; rintro r2 w2 ⟨rfl, h2⟩; obtain ⟨hc2, hf2, hz2⟩ := qb h2; (try simp at hz2); (try have ⟨hl2_0, hk2_0⟩ := qL w1.heap.size w2.heap.size)))
  go_wp2
  ·refine bodyPost_ret (v := .int .i64 B) (by simp [results, Tryz.results250, go_sem]) rfl ⟨rfl, ?_⟩
   repeat (with_reducible first | exact Below.refl _ _ | refine b_s ?_ _ | refine b_a ?_ _ | refine Below.drew ?_ | refine below_drewN ?_ _ | refine b_t ?_ h2 | refine b_t ?_ h1)
  ·rename_i hh; exact absurd hh (by simp [hb])
theorem sKept_any (s : ByteArray) (p q : Nat) (w : World) (hs : s.size ≤ 1000) (hp : p ≤ s.size) (hq : q ≤ s.size) :
  qC 250 #[.string s, .int .i64 p, .int .i64 q] w (.int .i64 ((if ¬ (Nib.beg s q = Nib.beg s p ∧ Nib.fin s q = Nib.fin s p) ∧ Nib.fin s p ≠ p then Nib.fin s p else q : Nat) : Int)) := by
 have G1 : qH 195 #[.string s, .int .i64 p] (.agg #[.int .i64 (Nib.beg s p), .int .i64 (Nib.fin s p)]) := fun ww => tLine_any s p p ww hs rfl hp
 have G2 : qH 195 #[.string s, .int .i64 q] (.agg #[.int .i64 (Nib.beg s q), .int .i64 (Nib.fin s q)]) := fun ww => tLine_any s q q ww hs rfl hq
 by_cases hx : Nib.beg s q = Nib.beg s p ∧ Nib.fin s q = Nib.fin s p
 ·rw [if_neg (by simp [hx])]
  rw [hx.1, hx.2] at G2
  exact sKept_same s p q _ _ w G1 G2
 ·have := sKept_other s p q _ _ _ _ w hx G1 G2
  by_cases hb : Nib.fin s p = p
  ·rw [if_neg (by simp [hb])]; rw [if_pos hb.symm] at this; exact this
  ·rw [if_pos ⟨hx, hb⟩]; rw [if_neg (fun h => hb h.symm)] at this; exact this
theorem sTaken_out (s : ByteArray) (p n q : Int) (v c : Bool) (w : World) :
  qC 203 #[.agg #[.string s, .int .i64 (p), .int .i64 (n), .bool v, .bool c], .agg #[.int .i64 (q), .int .i64 (0)]] w (.agg #[.int .i64 (min p q), .int .i64 (max p q), .bool false]) := by
 rcases Int.lt_trichotomy p q with h | h | h
 ·rw [show min p q = p by omega, show max p q = q by omega]
  go_enter Tryz.func203, Tryz.ntmps203
  go_wp2
  refine bodyPost_ret (v := .agg #[.int .i64 p, .int .i64 q, .bool false]) (by simp [results, Tryz.results203, go_sem]) rfl ⟨rfl, ?_⟩
  repeat (with_reducible first | exact Below.refl _ _ | refine b_s ?_ _ | refine b_a ?_ _ | refine Below.drew ?_ | refine below_drewN ?_ _)
 ·subst h; rw [Int.min_self, Int.max_self]
  go_enter Tryz.func203, Tryz.ntmps203
  go_wp2
  refine bodyPost_ret (v := .agg #[.int .i64 p, .int .i64 p, .bool false]) (by simp [results, Tryz.results203, go_sem]) rfl ⟨rfl, ?_⟩
  repeat (with_reducible first | exact Below.refl _ _ | refine b_s ?_ _ | refine b_a ?_ _ | refine Below.drew ?_ | refine below_drewN ?_ _)
 ·rw [show min p q = q by omega, show max p q = p by omega]
  go_enter Tryz.func203, Tryz.ntmps203
  go_wp2
  refine bodyPost_ret (v := .agg #[.int .i64 q, .int .i64 p, .bool false]) (by simp [results, Tryz.results203, go_sem]) rfl ⟨rfl, ?_⟩
  repeat (with_reducible first | exact Below.refl _ _ | refine b_s ?_ _ | refine b_a ?_ _ | refine Below.drew ?_ | refine below_drewN ?_ _)
theorem sTaken_in (s : ByteArray) (p n q : Int) (v c : Bool) (w : World) (hp : 0 ≤ p ∧ p ≤ 5000) (hq : 0 ≤ q ∧ q ≤ 5000) :
  qC 203 #[.agg #[.string s, .int .i64 (p), .int .i64 (n), .bool v, .bool c], .agg #[.int .i64 (q), .int .i64 (1)]] w (.agg #[.int .i64 (min p q), .int .i64 (max p q + 1), .bool false]) := by
 rcases Int.lt_trichotomy p q with h | h | h
 ·rw [show min p q = p by omega, show max p q = q by omega]
  go_enter Tryz.func203, Tryz.ntmps203
  go_wp2
  refine bodyPost_ret (v := .agg #[.int .i64 p, .int .i64 (q + 1), .bool false]) (by simp [results, Tryz.results203, go_sem]) rfl ⟨rfl, ?_⟩
  repeat (with_reducible first | exact Below.refl _ _ | refine b_s ?_ _ | refine b_a ?_ _ | refine Below.drew ?_ | refine below_drewN ?_ _)
 ·subst h; rw [Int.min_self, Int.max_self]
  go_enter Tryz.func203, Tryz.ntmps203
  go_wp2
  refine bodyPost_ret (v := .agg #[.int .i64 p, .int .i64 (p + 1), .bool false]) (by simp [results, Tryz.results203, go_sem]) rfl ⟨rfl, ?_⟩
  repeat (with_reducible first | exact Below.refl _ _ | refine b_s ?_ _ | refine b_a ?_ _ | refine Below.drew ?_ | refine below_drewN ?_ _)
 ·rw [show min p q = q by omega, show max p q = p by omega]
  go_enter Tryz.func203, Tryz.ntmps203
  go_wp2
  refine bodyPost_ret (v := .agg #[.int .i64 q, .int .i64 (p + 1), .bool false]) (by simp [results, Tryz.results203, go_sem]) rfl ⟨rfl, ?_⟩
  repeat (with_reducible first | exact Below.refl _ _ | refine b_s ?_ _ | refine b_a ?_ _ | refine Below.drew ?_ | refine below_drewN ?_ _)
theorem qt19 {P : Prop} (h : P := by
  go_enter Tryz.func203, Tryz.ntmps203
  go_wp2_with fail
  refine (HL.out _).mono ?_
  rintro e w1 ⟨rfl, h1⟩
  obtain ⟨hc1, hf1, hz1⟩ := qb h1
  try simp at hz1
  have l1 : w.heap.size + 1 + 1 < w1.heap.size := by omega
  have z0 : ∀ o, w1.frozen? ⟨w.heap.size + 1 + 1, o, none⟩ = false := by intro o; rw [hf1 _ _ qi]; go_simp
  have c1 : w1.cell? ⟨w.heap.size + 1 + 1, 0, none⟩ = some (.int .i64 0) := by rw [hc1 _ _ qi]; go_simp
  have c2 : w1.cell? ⟨w.heap.size + 1 + 1, 1, none⟩ = some (.int .i64 0) := by rw [hc1 _ _ qi]; go_simp
  have c3 : w1.cell? ⟨w.heap.size + 1 + 1, 2, none⟩ = some (.bool false) := by rw [hc1 _ _ qi]; go_simp
  clear hc1 hf1
  go_wp2
  refine bodyPost_ret (v := .agg #[.int .i64 X, .int .i64 Y, .bool true]) (by simp [results, Tryz.results203, go_sem, c1, c2, c3, z0, l1]) rfl ⟨rfl, ?_⟩
  repeat (with_reducible first | exact Below.refl _ _ | refine b_s ?_ _ | refine b_a ?_ _ | refine Below.drew ?_ | refine below_drewN ?_ _ | refine b_t ?_ h1)
 ) : P := h
theorem sTaken_lines (s : ByteArray) (p q : Nat) (n : Int) (v c : Bool) (w : World) (hs : s.size ≤ 1000) (hp : p ≤ s.size) (hq : q ≤ s.size) :
  qC 203 #[.agg #[.string s, .int .i64 (p), .int .i64 (n), .bool v, .bool c], .agg #[.int .i64 (q), .int .i64 (2)]] w (.agg #[.int .i64 (min (Nib.beg s p) (Nib.beg s q)), .int .i64 (max (Nib.fin s p) (Nib.fin s q)), .bool true]) := by
 rcases Nat.lt_trichotomy p q with h | h | h
 ·have HL : qH 182 #[.string s, .int .i64 p, .int .i64 q] (.agg #[.int .i64 (min (Nib.beg s p) (Nib.beg s q)), .int .i64 (max (Nib.fin s p) (Nib.fin s q)), .bool true]) := fun ww => tLines_any s p q p q ww hs rfl rfl hp hq
  generalize min (Nib.beg s p : Int) (Nib.beg s q) = X at *
  generalize max (Nib.fin s p : Int) (Nib.fin s q) = Y at *
  exact qt19
 ·subst h
  have HL : qH 182 #[.string s, .int .i64 p, .int .i64 p] (.agg #[.int .i64 (min (Nib.beg s p) (Nib.beg s p)), .int .i64 (max (Nib.fin s p) (Nib.fin s p)), .bool true]) := fun ww => tLines_any s p p p p ww hs rfl rfl hp hp
  generalize min (Nib.beg s p : Int) (Nib.beg s p) = X at *
  generalize max (Nib.fin s p : Int) (Nib.fin s p) = Y at *
  exact qt19
 ·have HL : qH 182 #[.string s, .int .i64 q, .int .i64 p] (.agg #[.int .i64 (min (Nib.beg s p) (Nib.beg s q)), .int .i64 (max (Nib.fin s p) (Nib.fin s q)), .bool true]) := by
   intro ww
   rw [Int.min_comm, Int.max_comm]
   exact tLines_any s q p q p ww hs rfl rfl hq hp
  generalize min (Nib.beg s p : Int) (Nib.beg s q) = X at *
  generalize max (Nib.fin s p : Int) (Nib.fin s q) = Y at *
  exact qt19
def ahd (s t : ByteArray) : Nat := Nib.up (fun i => Nib.bt s i == Nib.bt t i) (min s.size t.size) 0
def bhd (s t : ByteArray) : Nat := Nib.up (fun i => Nib.bt s (s.size - 1 - i) == Nib.bt t (t.size - 1 - i)) (min s.size t.size - ahd s t) 0
theorem qt21 {P : Prop} (h : P := by
  have HZ : B = z := by rw [← hu.out, Nib.up_stop]; exact fun h => hlt2 h.1
  clear hu
  go_wp2_with fail
  refine wp_region_held_drew (S := fun ww => Two ww w.heap.size 0 0) qk ?_ (fun hHeld => ?_)
  ·exact R0.drew
  refine qT 0 ?_
  simp only [Act.put, qP]
  refine qT 1 ?_
  simp only [Act.put, qP]
  refine qT 2 ?_
  simp only [Act.put, qP]
  refine qT 3 ?_
  simp only [Act.put, qP]
  refine wpAnyH_take (i := 4) (v := .bool false) (by simp only [List.getElem?_toArray, List.getElem?_cons_succ, List.getElem?_cons_zero]; rfl) qk qk qk (by exact fun _ _ _ h => h) (Or.inl ⟨by kernel_rfl, fun w hSw => by (try dsimp only at hSw); go_simp; first | done | omega | (simp [hlt2]; done)⟩) (by assumption) ?_
  try simp only [Act.put, qP]
  refine qT 5 ?_
  simp only [Act.put, qP]
  refine qS 6 ?_
  simp only [Act.put, qP]
  refine qS 7 ?_
  simp only [Act.put, qP]
  refine qS 8 ?_
  simp only [Act.put, qP]
  refine qS 9 ?_
  simp only [Act.put, qP]
  refine qS 10 ?_
  simp only [Act.put, qP]
  refine qS 11 ?_
  simp only [Act.put, qP]
  refine qS 12 ?_
  simp only [Act.put, qP]
  refine qS 13 ?_
  simp only [Act.put, qP]
  refine qS 14 ?_
  simp only [Act.put, qP]
  refine qS 15 ?_
  simp only [Act.put, qP]
  refine qS 16 ?_
  simp only [Act.put, qP]
  refine qS 17 ?_
  simp only [Act.put, qP]
  refine qS 18 ?_
  simp only [Act.put, qP]
  refine qS 19 ?_
  simp only [Act.put, qP]
  refine qS 20 ?_
  simp only [Act.put, qP]
  refine qT 21 ?_
  simp only [Act.put, qP]
  refine wpAnyH_done qk ?_ _
  go_wp2
  exact qV (.tuple #[.agg #[.int .i64 (A), .int .i64 ((s.size : Int) - z)], .agg #[.int .i64 (A), .int .i64 ((t.size : Int) - z)]]) (by simp [results, Tryz.results85, go_sem, ra0, ra1, raz, ral, rb0, rb1, rbz, rbl]) (by rw [HZ])
 ) : P := h
theorem tApart_any (s t : ByteArray) (w : World) (hs : s.size ≤ 1000) (ht : t.size ≤ 1000) :
  qC 85 #[.string s, .string t] w (.tuple #[.agg #[.int .i64 (ahd s t), .int .i64 ((s.size : Int) - bhd s t)], .agg #[.int .i64 (ahd s t), .int .i64 ((t.size : Int) - bhd s t)]]) := by
 have HA : Hid (Nib.up (fun i => Nib.bt s i == Nib.bt t i) (min s.size t.size) 0 = ahd s t) := rfl
 have HB : Hid (Nib.up (fun i => Nib.bt s (s.size - 1 - i) == Nib.bt t (t.size - 1 - i)) (min s.size t.size - ahd s t) 0 = bhd s t) := rfl
 have hA : ahd s t ≤ min s.size t.size := Nib.up_le (Nat.zero_le _)
 generalize ahd s t = A at *
 generalize bhd s t = B at *
 generalize hM : min s.size t.size = M at *
 have hm1 : M ≤ s.size := by omega
 have hm2 : M ≤ t.size := by omega
 rcases Nat.lt_or_ge t.size s.size with hst | hst
 all_goals
  go_enter Tryz.func85, Tryz.ntmps85
  have R0 : Two ((w.alloc (.cells #[.int .i64 0, .int .i64 0] 128)).alloc (.cells #[.int .i64 0, .int .i64 0] 128)) w.heap.size 0 0 := Two.alloc (Two.new _ _ _ _) _
  have R1 : Two ((w.alloc (.cells #[.int .i64 0, .int .i64 0] 128)).alloc (.cells #[.int .i64 0, .int .i64 0] 128)) (w.heap.size + 1) 0 0 := qN
  have BB : Below w.heap.size w ((w.alloc (.cells #[.int .i64 0, .int .i64 0] 128)).alloc (.cells #[.int .i64 0, .int .i64 0] 128)) := by
   repeat exact qB
  go_wp2
  go_loopw [7] (fun a wr => ∃ q : Nat, q ≤ M ∧ a = .int .i64 q ∧ Hid (Nib.up (fun i => Nib.bt s i == Nib.bt t i) M q = A) ∧ Two wr w.heap.size 0 0 ∧ Two wr (w.heap.size + 1) 0 0 ∧ Below w.heap.size w wr) (fun a _ => M - (intOf a).toNat)
  case atStart => exact ⟨0, Nat.zero_le _, rfl, HA, R0, R1, BB⟩
  case round =>
   clear R0 R1 BB
   obtain ⟨q, hq, rfl, hu, R0, R1, BB⟩ := hrel
   by_cases hlt : q < M
   ·have q1 : q < s.size := by omega
    have q2 : q < t.size := by omega
    have i1 : ((q : Nat) : Int) < ((s.size : Nat) : Int) := by omega
    have i2 : ((q : Nat) : Int) < ((t.size : Nat) : Int) := by omega
    by_cases hc : Nib.bt s q = Nib.bt t q
    ·have HS : Hid (Nib.up (fun i => Nib.bt s i == Nib.bt t i) M (q + 1) = A) := by rw [Hid, ← hu.out, Nib.up_step hlt (by simp [hc])]
     have HE : ((((s[q]'q1).toNat : Nat) : Int) == (((t[q]'q2).toNat : Nat) : Int)) = true := by rw [← Nib.bt_in q1, ← Nib.bt_in q2]; simp [hc]
     clear hu hc
     go_wp2_with fail
     go_region
     go_wp2
     go_round
     case rel => exact ⟨q + 1, by omega, by go_num, HS, R0.drew, R1.drew, BB.drew⟩
     case measure => simp [intOf] <;> omega
    ·have HZ : A = q := by rw [← hu.out, Nib.up_stop]; simp [hc]
     have HE : ((((s[q]'q1).toNat : Nat) : Int) == (((t[q]'q2).toNat : Nat) : Int)) = false := by rw [← Nib.bt_in q1, ← Nib.bt_in q2]; simp [hc]
     subst HZ
     clear hu hc
     go_wp2_with fail
     go_region
     go_wp2
     go_loopw [8] (fun a wr => ∃ z : Nat, z ≤ M - A ∧ a = .int .i64 z ∧ Hid (Nib.up (fun i => Nib.bt s (s.size - 1 - i) == Nib.bt t (t.size - 1 - i)) (M - A) z = B) ∧ Two wr w.heap.size 0 0 ∧ Two wr (w.heap.size + 1) 0 0 ∧ Below w.heap.size w wr) (fun a _ => (M - A) - (intOf a).toNat)
     case atStart => exact ⟨0, Nat.zero_le _, rfl, HB, R0.drew, R1.drew, BB.drew⟩
     case round =>
      clear R0 R1 BB
      obtain ⟨z, hz, rfl, hu, R0, R1, BB⟩ := hrel
      have ra0 := (R0).c0
      have ra1 := (R0).c1
      have raz := (R0).fz
      have ral := (R0).lt
      have rb0 := (R1).c0
      have rb1 := (R1).c1
      have rbz := (R1).fz
      have rbl := (R1).lt
      have j5 : IntKind.i64.wrap (((t.size : Nat) : Int) - ((A : Nat) : Int)) = ((t.size : Nat) : Int) - ((A : Nat) : Int) := by rw [IntKind.wrap_i64]; omega
      have j6 : IntKind.i64.wrap (((s.size : Nat) : Int) - ((A : Nat) : Int)) = ((s.size : Nat) : Int) - ((A : Nat) : Int) := by rw [IntKind.wrap_i64]; omega
      have j7 : IntKind.i64.wrap (((t.size : Nat) : Int) - ((z : Nat) : Int)) = ((t.size : Nat) : Int) - ((z : Nat) : Int) := by rw [IntKind.wrap_i64]; omega
      have j8 : IntKind.i64.wrap (((s.size : Nat) : Int) - ((z : Nat) : Int)) = ((s.size : Nat) : Int) - ((z : Nat) : Int) := by rw [IntKind.wrap_i64]; omega
      by_cases hlt2 : z < M - A
      ·have z1 : s.size - 1 - z < s.size := by omega
       have z2 : t.size - 1 - z < t.size := by omega
       have j1 : ((s.size : Nat) : Int) - 1 - ((z : Nat) : Int) = ((s.size - 1 - z : Nat) : Int) := by omega
       have j2 : ((t.size : Nat) : Int) - 1 - ((z : Nat) : Int) = ((t.size - 1 - z : Nat) : Int) := by omega
       first | (have i3 : ((z : Nat) : Int) < ((t.size : Nat) : Int) - ((A : Nat) : Int) := by omega) | skip
       first | (have i4 : ((z : Nat) : Int) < ((s.size : Nat) : Int) - ((A : Nat) : Int) := by omega) | skip
       by_cases hc : Nib.bt s (s.size - 1 - z) = Nib.bt t (t.size - 1 - z)
       ·have HS : Hid (Nib.up (fun i => Nib.bt s (s.size - 1 - i) == Nib.bt t (t.size - 1 - i)) (M - A) (z + 1) = B) := by rw [Hid, ← hu.out, Nib.up_step hlt2 (by simp [hc])]
        have HE : ((((s[s.size - 1 - z]'z1).toNat : Nat) : Int) == (((t[t.size - 1 - z]'z2).toNat : Nat) : Int)) = true := by rw [← Nib.bt_in z1, ← Nib.bt_in z2]; simp [hc]
        clear hu hc
        go_wp2_with fail
        go_region
        go_wp2
        go_round
        case rel => exact ⟨z + 1, by omega, by go_num, HS, R0.drew, R1.drew, BB.drew⟩
        case measure => simp [intOf] <;> omega
       ·have HZ : B = z := by rw [← hu.out, Nib.up_stop]; simp [hc]
        have HE : ((((s[s.size - 1 - z]'z1).toNat : Nat) : Int) == (((t[t.size - 1 - z]'z2).toNat : Nat) : Int)) = false := by rw [← Nib.bt_in z1, ← Nib.bt_in z2]; simp [hc]
        clear hu hc
        go_wp2_with fail
        go_region
        go_wp2
        exact qV (.tuple #[.agg #[.int .i64 (A), .int .i64 ((s.size : Int) - z)], .agg #[.int .i64 (A), .int .i64 ((t.size : Int) - z)]]) (by simp [results, Tryz.results85, go_sem, ra0, ra1, raz, ral, rb0, rb1, rbz, rbl]) (by rw [HZ])
      ·exact qt21
   ·have HZ : A = q := by rw [← hu.out, Nib.up_stop]; exact fun h => hlt h.1
    subst HZ
    clear hu
    go_wp2_with fail
    refine wp_region_held_drew (S := fun ww => Two ww w.heap.size 0 0) qk ?_ (fun hHeld => ?_)
    ·exact R0.drew
    refine qT 0 ?_
    simp only [Act.put, qP]
    refine qT 1 ?_
    simp only [Act.put, qP]
    refine wpAnyH_take (i := 2) (v := .bool false) (by simp only [List.getElem?_toArray, List.getElem?_cons_succ, List.getElem?_cons_zero]; rfl) qk qk qk (by exact fun _ _ _ h => h) (Or.inl ⟨by kernel_rfl, fun w hSw => by (try dsimp only at hSw); go_simp; first | done | omega | (simp [hlt]; done)⟩) (by assumption) ?_
    try simp only [Act.put, qP]
    refine qT 3 ?_
    simp only [Act.put, qP]
    refine qS 4 ?_
    simp only [Act.put, qP]
    refine qS 5 ?_
    simp only [Act.put, qP]
    refine qS 6 ?_
    simp only [Act.put, qP]
    refine qS 7 ?_
    simp only [Act.put, qP]
    refine qS 8 ?_
    simp only [Act.put, qP]
    refine qS 9 ?_
    simp only [Act.put, qP]
    refine qS 10 ?_
    simp only [Act.put, qP]
    refine qT 11 ?_
    simp only [Act.put, qP]
    refine wpAnyH_done qk ?_ _
    go_wp2
    go_loopw [8] (fun a wr => ∃ z : Nat, z ≤ M - A ∧ a = .int .i64 z ∧ Hid (Nib.up (fun i => Nib.bt s (s.size - 1 - i) == Nib.bt t (t.size - 1 - i)) (M - A) z = B) ∧ Two wr w.heap.size 0 0 ∧ Two wr (w.heap.size + 1) 0 0 ∧ Below w.heap.size w wr) (fun a _ => (M - A) - (intOf a).toNat)
    case atStart => exact ⟨0, Nat.zero_le _, rfl, HB, R0.drew, R1.drew, BB.drew⟩
    case round =>
     clear R0 R1 BB
     obtain ⟨z, hz, rfl, hu, R0, R1, BB⟩ := hrel
     have ra0 := (R0).c0
     have ra1 := (R0).c1
     have raz := (R0).fz
     have ral := (R0).lt
     have rb0 := (R1).c0
     have rb1 := (R1).c1
     have rbz := (R1).fz
     have rbl := (R1).lt
     have j5 : IntKind.i64.wrap (((t.size : Nat) : Int) - ((A : Nat) : Int)) = ((t.size : Nat) : Int) - ((A : Nat) : Int) := by rw [IntKind.wrap_i64]; omega
     have j6 : IntKind.i64.wrap (((s.size : Nat) : Int) - ((A : Nat) : Int)) = ((s.size : Nat) : Int) - ((A : Nat) : Int) := by rw [IntKind.wrap_i64]; omega
     have j7 : IntKind.i64.wrap (((t.size : Nat) : Int) - ((z : Nat) : Int)) = ((t.size : Nat) : Int) - ((z : Nat) : Int) := by rw [IntKind.wrap_i64]; omega
     have j8 : IntKind.i64.wrap (((s.size : Nat) : Int) - ((z : Nat) : Int)) = ((s.size : Nat) : Int) - ((z : Nat) : Int) := by rw [IntKind.wrap_i64]; omega
     by_cases hlt2 : z < M - A
     ·exact absurd hlt2 qo
     ·exact qt21
end Go.Proofs.YtlendfhehhacpaaGreat
