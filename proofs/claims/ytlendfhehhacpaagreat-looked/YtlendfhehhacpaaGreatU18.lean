/- A part. -/
import Derived.Test.YtlendfhehhacpaaGreatU16
set_option linter.unusedVariables false
set_option linter.unusedSimpArgs false
set_option maxRecDepth 100000
set_option maxHeartbeats 8000000
namespace Go.Proofs.YtlendfhehhacpaaGreat
open Go.RowKit Nib Tryz
theorem bTake_normal_esc (b r d : Nat) (tv : Value) (dg : ByteArray) (p : Pg) (w : World) (hb : BdAt w b r d tv dg) (h : RdAt w r d p) (hm : p.mode = 0) :
  Calls Tryz.prog 46 #[.pointer (some ⟨b, 0, none⟩), .int .u8 27] w fun e w' => e = .returned (.int .i64 1) ∧ RdAt w' r d { p.none' with mode := 0, anchor := 0 } ∧ Upd [r, d] w w' := by
 have HO : Hid (∀ ww, BdAt ww b r d tv dg → RdAt ww r d p → qC 64 #[.pointer (some ⟨b, 0, none⟩)] ww (.iface 77 (.agg #[.pointer (some ⟨r, 0, none⟩)]))) := fun ww h1 h2 => mOn_normal b r d tv dg p ww h1 h2 hm
 have HE : Hid (∀ ww, RdAt ww r d p → Calls Tryz.prog 135 #[.pointer (some ⟨r, 0, none⟩)] ww fun e w' => e = .returned (.int .i64 1) ∧ RdAt w' r d { p.none' with mode := 0, anchor := 0 } ∧ Upd [r, d] ww w') := fun ww hh => mEscape r d p ww hh
 generalize hp2 : ({ p.none' with mode := 0, anchor := 0 } : Pg) = p2 at *
 have H := h
 have hmt := meth_normal_escape ⟨r, 0, none⟩
 clear hm h hp2
 go_enter func46, ntmps46
 go_wp2_with fail
 refine Calls.mono (HO.out _ hb H) ?_
 rintro e w1 ⟨rfl, h1⟩
 go_wp2_with fail
 refine Calls.mono (HE.out _ qRd) ?_
 rintro e w2 ⟨rfl, h2, u2⟩
 exact qt13
theorem bTake_marking_esc (b r d : Nat) (tv : Value) (dg : ByteArray) (p : Pg) (w : World) (hb : BdAt w b r d tv dg) (h : RdAt w r d p) (hm : p.mode = 2 ∨ p.mode = 3) :
  Calls Tryz.prog 46 #[.pointer (some ⟨b, 0, none⟩), .int .u8 27] w fun e w' => e = .returned (.int .i64 1) ∧ RdAt w' r d { p.none' with mode := 0, anchor := 0 } ∧ Upd [r, d] w w' := by
 have HO : Hid (∀ ww, BdAt ww b r d tv dg → RdAt ww r d p → qC 64 #[.pointer (some ⟨b, 0, none⟩)] ww (.iface 81 (.agg #[.pointer (some ⟨r, 0, none⟩)]))) := fun ww h1 h2 => mOn_marking b r d tv dg p ww h1 h2 hm
 have HE : Hid (∀ ww, RdAt ww r d p → Calls Tryz.prog 135 #[.pointer (some ⟨r, 0, none⟩)] ww fun e w' => e = .returned (.int .i64 1) ∧ RdAt w' r d { p.none' with mode := 0, anchor := 0 } ∧ Upd [r, d] ww w') := fun ww hh => mEscape r d p ww hh
 generalize hp2 : ({ p.none' with mode := 0, anchor := 0 } : Pg) = p2 at *
 have H := h
 have hmt := meth_marking_escape ⟨r, 0, none⟩
 clear hm h hp2
 go_enter func46, ntmps46
 go_wp2_with fail
 refine Calls.mono (HO.out _ hb H) ?_
 rintro e w1 ⟨rfl, h1⟩
 go_wp2_with fail
 refine Calls.mono (HE.out _ qRd) ?_
 rintro e w2 ⟨rfl, h2, u2⟩
 exact qt13
theorem vBack_piece (s : ByteArray) (a b p : Int) (w : World) :
  qC 221 #[.string s, .agg #[.int .i64 a, .int .i64 b, .bool false], .int .i64 p] w (.int .i64 a) := by
 go_enter func221, ntmps221
 go_wp2
 refine bodyPost_ret (v := .int .i64 a) (by simp [results, results221, go_sem]) rfl ⟨rfl, ?_⟩
 exact qB
theorem vWrites_any (c : Int) (w : World) :
  qC 176 #[.int .u8 c] w (.bool (c == 100 || c == 99 || c == 121)) := by
 go_enter func176, ntmps176
 go_wp2
 ·refine bodyPost_ret (v := .bool true) (by simp [results, results176, go_sem]) rfl ⟨by rename_i h; simp [h], ?_⟩
  exact qB
 ·refine bodyPost_ret (v := .bool true) (by simp [results, results176, go_sem]) rfl ⟨by rename_i h; simp [h], ?_⟩
  exact qB
 ·refine bodyPost_ret (v := .bool (c == 100 || c == 99 || c == 121)) (by simp [results, results176, go_sem]) rfl ⟨rfl, ?_⟩
  exact qB
theorem vBack_lines (s : ByteArray) (a p : Nat) (b : Int) (w : World) (hs : s.size ≤ 1000) (ha : a ≤ s.size) (hp : p ≤ s.size) :
  qC 221 #[.string s, .agg #[.int .i64 a, .int .i64 b, .bool true], .int .i64 p] w (.int .i64 (if beg s a = beg s p ∧ fin s a = fin s p then (p : Int) else min (beg s a + (p - beg s p)) (max (beg s a) (fin s a - 1)))) := by
 have G1 : qH 195 #[.string s, .int .i64 a] (.agg #[.int .i64 (beg s a), .int .i64 (fin s a)]) := fun ww => tLine_any s a a ww hs rfl ha
 have G2 : qH 195 #[.string s, .int .i64 p] (.agg #[.int .i64 (beg s p), .int .i64 (fin s p)]) := fun ww => tLine_any s p p ww hs rfl hp
 have e1 := beg_le s p
 have e2 := beg_le s a
 have e3 := fin_le ha
 generalize beg s a = A at *
 generalize fin s a = B at *
 generalize beg s p = C at *
 generalize fin s p = D at *
 by_cases hx : A = C ∧ B = D
 ·rw [if_pos hx]
  have HQ : ∀ ww, (binOp .eql 128 (.agg #[.int .i64 (A), .int .i64 (B)]) (.agg #[.int .i64 (C), .int .i64 (D)])).run Tryz.prog ww = .ok (.bool true) ww := by intro ww; rw [eql_two]; simp [hx]
  clear hx
  go_enter func221, ntmps221
  go_wp2_with fail
  refine (G1.out _).mono ?_
  rintro e w1 ⟨rfl, h1⟩
  obtain ⟨hc1, hf1, hz1⟩ := qb h1
  try simp at hz1
  go_wp2_with fail
  refine (G2.out _).mono ?_
  rintro e w2 ⟨rfl, h2⟩
  obtain ⟨hc2, hf2, hz2⟩ := qb h2
  try simp at hz2
  clear hc1 hf1 hc2 hf2
  go_wp2
  refine bodyPost_ret (v := .int .i64 p) (by simp [results, results221, go_sem]) rfl ⟨rfl, ?_⟩
  exact qB
 ·rw [if_neg hx]
  have HQ : ∀ ww, (binOp .eql 128 (.agg #[.int .i64 (A), .int .i64 (B)]) (.agg #[.int .i64 (C), .int .i64 (D)])).run Tryz.prog ww = .ok (.bool false) ww := by
   intro ww; rw [eql_two]; congr 2; simp only [Bool.and_eq_false_imp, beq_iff_eq, beq_eq_false_iff_ne]; omega
  have G3 : qH 245 #[.agg #[.int .i64 (A), .int .i64 (B)], .int .i64 ((p : Int) - C)] (.int .i64 (min (A + (p - C)) (max (A : Int) (B - 1)))) := fun ww => tColumn_any A B (p - C) ww qo qo
  generalize min ((A : Int) + (p - C)) (max (A : Int) (B - 1)) = X at *
  clear hx
  go_enter func221, ntmps221
  go_wp2_with fail
  refine (G1.out _).mono ?_
  rintro e w1 ⟨rfl, h1⟩
  obtain ⟨hc1, hf1, hz1⟩ := qb h1
  try simp at hz1
  go_wp2_with fail
  refine (G2.out _).mono ?_
  rintro e w2 ⟨rfl, h2⟩
  obtain ⟨hc2, hf2, hz2⟩ := qb h2
  try simp at hz2
  clear hc1 hf1 hc2 hf2
  go_wp2_with fail
  refine (G3.out _).mono ?_
  rintro e w3 ⟨rfl, h3⟩
  obtain ⟨hc3, hf3, hz3⟩ := qb h3
  try simp at hz3
  go_wp2
  refine bodyPost_ret (v := .int .i64 X) (by simp [results, results221, go_sem]) rfl ⟨rfl, ?_⟩
  exact qB
