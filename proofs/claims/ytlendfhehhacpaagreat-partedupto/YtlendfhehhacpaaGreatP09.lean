/- A part. -/
import Derived.Test.YtlendfhehhacpaaGreatP06
import Derived.Test.YtlendfhehhacpaaGreatP05
set_option linter.unusedVariables false
set_option linter.unusedSimpArgs false
set_option maxRecDepth 100000
set_option maxHeartbeats 8000000
namespace Go.Proofs.YtlendfhehhacpaaGreat
open Go.RowKit
def weI (z i j : Nat) : Nat := if j < z then i else i - 1
def weJ (z j : Nat) : Nat := if j < z then j + 1 else j
theorem we_le {z i j : Nat} (h : i ≤ j) (hj : j ≤ z) : weI z i j ≤ weJ z j ∧ weJ z j ≤ z := by unfold weI weJ; split <;> omega
theorem vWithEnds (s : ByteArray) (i j : Nat) (w : World) (hs : s.size ≤ 1000) (h : i ≤ j) (hj : j ≤ s.size) :
  qC 263 #[.string s, .agg #[.int .i64 (i), .int .i64 (j)]] w (.agg #[.int .i64 (weI s.size i j), .int .i64 (weJ s.size j)]) := by
 have hw1 : IntKind.i64.wrap ((j : Int) + 1) = (j : Int) + 1 := by rw [IntKind.wrap_i64]; omega
 have hw2 : IntKind.i64.wrap ((i : Int) - 1) = (i : Int) - 1 := by rw [IntKind.wrap_i64]; omega
 have HE : qH 246 #[.string s] (.int .i64 s.size) := fun ww => Calls.mono (tEnd_any s ww) (fun _ _ ⟨a, b⟩ => ⟨a, b ▸ Below.refl _ _⟩)
 unfold weI weJ
 by_cases h1 : j < s.size
 ·have i1 : ((j : Nat) : Int) < ((s.size : Nat) : Int) := by omega
  rw [if_pos h1, if_pos h1, show (((j + 1 : Nat)) : Int) = (j : Int) + 1 by omega]
  go_enter Tryz.func263, Tryz.ntmps263
  go_wp2_with fail
  go_region_held3 (fun ww => ww.cell? ⟨w.heap.size, 0, none⟩ = some (.int .i64 i) ∧ ww.cell? ⟨w.heap.size, 1, none⟩ = some (.int .i64 j)) (exact qK) ((go_at_call 246; refine (HE.out _).mono ?_; rintro r1 w1 ⟨rfl, h1⟩; obtain ⟨hc1, hf1, hz1⟩ := qb h1; (try simp at hz1); (try have ⟨hl1_0, hk1_0⟩ := qL w.heap.size w1.heap.size)))
  have l1 : w.heap.size < w1.heap.size := by omega
  have l2 : w.heap.size + 1 < w1.heap.size := by omega
  have r0 : w1.cell? ⟨w.heap.size + 1, 0, none⟩ = some (.int .i64 0) := (hc1 _ _ qi).trans qi
  have r1 : w1.cell? ⟨w.heap.size + 1, 1, none⟩ = some (.int .i64 0) := (hc1 _ _ qi).trans qi
  have rz : ∀ o, w1.frozen? ⟨w.heap.size + 1, o, none⟩ = false := fun o => (hf1 _ _ qi).trans qi
  have rz0 : ∀ o, w1.frozen? ⟨w.heap.size, o, none⟩ = false := fun o => (hf1 _ _ qs).trans qi
  clear hc1 hf1
  go_wp2
  exact qV (.agg #[.int .i64 (i), .int .i64 ((j : Int) + 1)]) (by simp [results, Tryz.results263, go_sem, r0, r1, rz, l2, l1]) rfl
 ·have i1 : ¬ ((j : Nat) : Int) < ((s.size : Nat) : Int) := by omega
  rw [if_neg h1, if_neg h1]
  by_cases h2 : 0 < i
  ·have i2 : (0 : Int) < ((i : Nat) : Int) := by omega
   rw [show (((i - 1 : Nat)) : Int) = (i : Int) - 1 by omega]
   go_enter Tryz.func263, Tryz.ntmps263
   go_wp2_with fail
   go_region_held3 (fun ww => ww.cell? ⟨w.heap.size, 0, none⟩ = some (.int .i64 i) ∧ ww.cell? ⟨w.heap.size, 1, none⟩ = some (.int .i64 j)) (exact qK) ((go_at_call 246; refine (HE.out _).mono ?_; rintro r1 w1 ⟨rfl, h1⟩; obtain ⟨hc1, hf1, hz1⟩ := qb h1; (try simp at hz1); (try have ⟨hl1_0, hk1_0⟩ := qL w.heap.size w1.heap.size)))
   have l1 : w.heap.size < w1.heap.size := by omega
   have l2 : w.heap.size + 1 < w1.heap.size := by omega
   have r0 : w1.cell? ⟨w.heap.size + 1, 0, none⟩ = some (.int .i64 0) := (hc1 _ _ qi).trans qi
   have r1 : w1.cell? ⟨w.heap.size + 1, 1, none⟩ = some (.int .i64 0) := (hc1 _ _ qi).trans qi
   have rz : ∀ o, w1.frozen? ⟨w.heap.size + 1, o, none⟩ = false := fun o => (hf1 _ _ qi).trans qi
   have rz0 : ∀ o, w1.frozen? ⟨w.heap.size, o, none⟩ = false := fun o => (hf1 _ _ qs).trans qi
   clear hc1 hf1
   go_wp2
   exact qV (.agg #[.int .i64 ((i : Int) - 1), .int .i64 (j)]) (by simp [results, Tryz.results263, go_sem, r0, r1, rz, l2, l1]) rfl
  ·have h3 : i = 0 := by omega
   have i2 : ¬ (0 : Int) < ((i : Nat) : Int) := by omega
   rw [show (((i - 1 : Nat)) : Int) = (i : Int) by omega]
   clear h3
   go_enter Tryz.func263, Tryz.ntmps263
   go_wp2_with fail
   go_region_held3 (fun ww => ww.cell? ⟨w.heap.size, 0, none⟩ = some (.int .i64 i) ∧ ww.cell? ⟨w.heap.size, 1, none⟩ = some (.int .i64 j)) (exact qK) ((go_at_call 246; refine (HE.out _).mono ?_; rintro r1 w1 ⟨rfl, h1⟩; obtain ⟨hc1, hf1, hz1⟩ := qb h1; (try simp at hz1); (try have ⟨hl1_0, hk1_0⟩ := qL w.heap.size w1.heap.size)))
   have l1 : w.heap.size < w1.heap.size := by omega
   have l2 : w.heap.size + 1 < w1.heap.size := by omega
   have r0 : w1.cell? ⟨w.heap.size + 1, 0, none⟩ = some (.int .i64 0) := (hc1 _ _ qi).trans qi
   have r1 : w1.cell? ⟨w.heap.size + 1, 1, none⟩ = some (.int .i64 0) := (hc1 _ _ qi).trans qi
   have rz : ∀ o, w1.frozen? ⟨w.heap.size + 1, o, none⟩ = false := fun o => (hf1 _ _ qi).trans qi
   have rz0 : ∀ o, w1.frozen? ⟨w.heap.size, o, none⟩ = false := fun o => (hf1 _ _ qs).trans qi
   clear hc1 hf1
   go_wp2
   exact qV (.agg #[.int .i64 (i), .int .i64 (j)]) (by simp [results, Tryz.results263, go_sem, r0, r1, rz, l2, l1]) rfl
def cutS (s : ByteArray) (i j : Nat) : ByteArray := s.extract 0 i ++ s.extract j s.size
theorem cutS_size {s : ByteArray} {i j : Nat} (h : i ≤ j) (hj : j ≤ s.size) : (cutS s i j).size = s.size - (j - i) := by
 unfold cutS
 rw [ByteArray.size_append, ByteArray.size_extract, ByteArray.size_extract]
 omega
theorem tWith_cut (s : ByteArray) (i j : Nat) (w : World) (hs : s.size ≤ 1000) (h : i ≤ j) (hj : j ≤ s.size) :
  qC 192 #[.string s, .agg #[.int .i64 (i), .int .i64 (j)], .string ⟨#[]⟩] w (.string (cutS s i j)) := by
 have := tWith_any s ⟨#[]⟩ i j i j w hs qd rfl rfl h hj
 rw [show s.extract 0 i ++ (⟨#[]⟩ : ByteArray) = s.extract 0 i from ByteArray.append_empty] at this
 exact this
theorem vWithout_lines (s : ByteArray) (i j : Nat) (w : World) (hs : s.size ≤ 1000) (h : i ≤ j) (hj : j ≤ s.size) :
  qC 218 #[.string s, .agg #[.int .i64 i, .int .i64 j, .bool true]] w (.tuple #[.string (cutS s (weI s.size i j) (weJ s.size j)), .int .i64 (Nib.frs (cutS s (weI s.size i j) (weJ s.size j)) (min i (cutS s (weI s.size i j) (weJ s.size j)).size))]) := by
 obtain ⟨g1, g2⟩ := we_le h hj
 have hz := cutS_size g1 g2
 have HE : qH 263 #[.string s, .agg #[.int .i64 (i), .int .i64 (j)]] (.agg #[.int .i64 (weI s.size i j), .int .i64 (weJ s.size j)]) := fun ww => vWithEnds s i j ww hs h hj
 have HW : qH 192 #[.string s, .agg #[.int .i64 (weI s.size i j), .int .i64 (weJ s.size j)], .string ⟨#[]⟩] (.string (cutS s (weI s.size i j) (weJ s.size j))) := fun ww => tWith_cut s _ _ ww hs g1 g2
 generalize weI s.size i j = I at *
 generalize weJ s.size j = J at *
 have hz2 : (cutS s I J).size ≤ 1000 := by omega
 generalize cutS s I J = X at *
 have HEnd : qH 246 #[.string X] (.int .i64 X.size) := fun ww => Calls.mono (tEnd_any X ww) (fun _ _ ⟨a, b⟩ => ⟨a, b ▸ Below.refl _ _⟩)
 have hm : min (i : Int) (X.size : Int) = ((min i X.size : Nat) : Int) := by omega
 have hk : min i X.size ≤ X.size := by omega
 generalize hM : min i X.size = M at *
 have HL : qH 195 #[.string X, .int .i64 M] (.agg #[.int .i64 (Nib.beg X M), .int .i64 (Nib.fin X M)]) := fun ww => tLine_any X M M ww hz2 rfl hk
 have HF : qH 243 #[.string X, .agg #[.int .i64 (Nib.beg X M), .int .i64 (Nib.fin X M)]] (.int .i64 (Nib.frs X M)) := fun ww => tFirst_any X _ _ M ww hz2 hk rfl rfl
 generalize Nib.frs X M = F at *
 generalize Nib.beg X M = LB at *
 generalize Nib.fin X M = LE at *
 clear hz g1 g2
 by_cases hle : X.size < i
 ·have hi : ((X.size : Nat) : Int) < ((i : Nat) : Int) := by omega
  have e : M = X.size := by omega
  subst e
  clear hM hm hk
  go_enter Tryz.func218, Tryz.ntmps218
  go_wp2_with fail
  refine (HE.out _).mono ?_
  rintro e w1 ⟨rfl, h1⟩
  obtain ⟨hc1, hf1, hz1⟩ := qb h1
  try simp at hz1
  have a0 : w1.cell? ⟨w.heap.size, 0, none⟩ = some (.int .i64 i) := (hc1 _ _ qi).trans qi
  have al : w.heap.size < w1.heap.size := by omega
  go_wp2_with fail
  refine (HW.out _).mono ?_
  rintro e w2 ⟨rfl, h2⟩
  obtain ⟨hc2, hf2, hz2⟩ := qb h2
  try simp at hz2
  have b0 : w2.cell? ⟨w.heap.size, 0, none⟩ = some (.int .i64 i) := (hc2 _ _ qO).trans a0
  have bl : w.heap.size < w2.heap.size := by omega
  clear hc1 hf1 hc2 hf2 a0
  go_wp2_with fail
  go_region_held3 (fun ww => ww.cell? ⟨w.heap.size, 0, none⟩ = some (.int .i64 i)) ((first | (go_simp; done) | ((repeat exact qM); done))) (first | (go_at_call 246; with_reducible refine Calls.mono (HEnd.out (w2.alloc (.cells #[.int .i64 0, .int .i64 0] 128)).drew) ?_; rintro r5 w5 ⟨rfl, h5⟩; have hz5 := h5.size; (try simp at hz5); (try have ⟨hl5_0, hk5_0⟩ := qL w.heap.size w5.heap.size); have nv0_0 : w5.cell? ⟨w2.heap.size, 0, none⟩ = some (.int .i64 0) := ((bcell h5).1 _ _ qO).trans qi; have nv0_1 : w5.cell? ⟨w2.heap.size, 1, none⟩ = some (.int .i64 0) := ((bcell h5).1 _ _ qO).trans qi; have nz0 : ∀ o, w5.frozen? ⟨w2.heap.size, o, none⟩ = false := fun o => ((bcell h5).2 _ o qO).trans qi; have nl0 : w2.heap.size < w5.heap.size := qo) | (go_at_call 246; with_reducible refine Calls.mono (HEnd.out w2.drew) ?_; rintro r5 w5 ⟨rfl, h5⟩; have hz5 := h5.size; (try simp at hz5); (try have ⟨hl5_0, hk5_0⟩ := qL w.heap.size w5.heap.size)) | (go_at_call 195; with_reducible refine Calls.mono (HL.out (w5.alloc (.cells #[.int .i64 0, .int .i64 0] 128))) ?_; rintro r3 w3 ⟨rfl, h3⟩; have hz3 := h3.size; (try simp at hz3); (try have ⟨hl3_0, hk3_0⟩ := qL w.heap.size w3.heap.size); (try have nv0_0 := memLater h3 nv0_0); (try have nv0_1 := memLater h3 nv0_1); (try have nz0 : ∀ o, w3.frozen? ⟨w2.heap.size, o, none⟩ = false := fun o => ((bcell h3).2 _ o qO).trans (nz0 o)); (try have nl0 : w2.heap.size < w3.heap.size := qo); have nv1_0 : w3.cell? ⟨w5.heap.size, 0, none⟩ = some (.int .i64 0) := ((bcell h3).1 _ _ qO).trans qi; have nv1_1 : w3.cell? ⟨w5.heap.size, 1, none⟩ = some (.int .i64 0) := ((bcell h3).1 _ _ qO).trans qi; have nz1 : ∀ o, w3.frozen? ⟨w5.heap.size, o, none⟩ = false := fun o => ((bcell h3).2 _ o qO).trans qi; have nl1 : w5.heap.size < w3.heap.size := qo) | (go_at_call 195; with_reducible refine Calls.mono (HL.out w5) ?_; rintro r3 w3 ⟨rfl, h3⟩; have hz3 := h3.size; (try simp at hz3); (try have ⟨hl3_0, hk3_0⟩ := qL w.heap.size w3.heap.size); (try have nv0_0 := memLater h3 nv0_0); (try have nv0_1 := memLater h3 nv0_1); (try have nz0 : ∀ o, w3.frozen? ⟨w2.heap.size, o, none⟩ = false := fun o => ((bcell h3).2 _ o qO).trans (nz0 o)); (try have nl0 : w2.heap.size < w3.heap.size := qo)))
  all_goals
   go_wp2_with fail
   refine (HF.out _).mono ?_
   rintro e w4 ⟨rfl, h4⟩
   obtain ⟨hc4, hf4, hz4⟩ := qb h4
   try simp at hz4
   go_wp2
   exact qV (.tuple #[.string X, .int .i64 F]) (by simp [results, Tryz.results218, go_sem]) rfl
 ·have hi : ¬ ((X.size : Nat) : Int) < ((i : Nat) : Int) := by omega
  have e : M = i := by omega
  subst e
  clear hM hm hk
  go_enter Tryz.func218, Tryz.ntmps218
  go_wp2_with fail
  refine (HE.out _).mono ?_
  rintro e w1 ⟨rfl, h1⟩
  obtain ⟨hc1, hf1, hz1⟩ := qb h1
  try simp at hz1
  have a0 : w1.cell? ⟨w.heap.size, 0, none⟩ = some (.int .i64 M) := (hc1 _ _ qi).trans qi
  have al : w.heap.size < w1.heap.size := by omega
  go_wp2_with fail
  refine (HW.out _).mono ?_
  rintro e w2 ⟨rfl, h2⟩
  obtain ⟨hc2, hf2, hz2⟩ := qb h2
  try simp at hz2
  have b0 : w2.cell? ⟨w.heap.size, 0, none⟩ = some (.int .i64 M) := (hc2 _ _ qO).trans a0
  have bl : w.heap.size < w2.heap.size := by omega
  clear hc1 hf1 hc2 hf2 a0
  go_wp2_with fail
  go_region_held3 (fun ww => ww.cell? ⟨w.heap.size, 0, none⟩ = some (.int .i64 M)) ((first | (go_simp; done) | ((repeat exact qM); done))) (first | (go_at_call 246; with_reducible refine Calls.mono (HEnd.out (w2.alloc (.cells #[.int .i64 0, .int .i64 0] 128)).drew) ?_; rintro r5 w5 ⟨rfl, h5⟩; have hz5 := h5.size; (try simp at hz5); (try have ⟨hl5_0, hk5_0⟩ := qL w.heap.size w5.heap.size); have nv0_0 : w5.cell? ⟨w2.heap.size, 0, none⟩ = some (.int .i64 0) := ((bcell h5).1 _ _ qO).trans qi; have nv0_1 : w5.cell? ⟨w2.heap.size, 1, none⟩ = some (.int .i64 0) := ((bcell h5).1 _ _ qO).trans qi; have nz0 : ∀ o, w5.frozen? ⟨w2.heap.size, o, none⟩ = false := fun o => ((bcell h5).2 _ o qO).trans qi; have nl0 : w2.heap.size < w5.heap.size := qo) | (go_at_call 246; with_reducible refine Calls.mono (HEnd.out w2.drew) ?_; rintro r5 w5 ⟨rfl, h5⟩; have hz5 := h5.size; (try simp at hz5); (try have ⟨hl5_0, hk5_0⟩ := qL w.heap.size w5.heap.size)) | (go_at_call 195; with_reducible refine Calls.mono (HL.out (w5.alloc (.cells #[.int .i64 0, .int .i64 0] 128))) ?_; rintro r3 w3 ⟨rfl, h3⟩; have hz3 := h3.size; (try simp at hz3); (try have ⟨hl3_0, hk3_0⟩ := qL w.heap.size w3.heap.size); (try have nv0_0 := memLater h3 nv0_0); (try have nv0_1 := memLater h3 nv0_1); (try have nz0 : ∀ o, w3.frozen? ⟨w2.heap.size, o, none⟩ = false := fun o => ((bcell h3).2 _ o qO).trans (nz0 o)); (try have nl0 : w2.heap.size < w3.heap.size := qo); have nv1_0 : w3.cell? ⟨w5.heap.size, 0, none⟩ = some (.int .i64 0) := ((bcell h3).1 _ _ qO).trans qi; have nv1_1 : w3.cell? ⟨w5.heap.size, 1, none⟩ = some (.int .i64 0) := ((bcell h3).1 _ _ qO).trans qi; have nz1 : ∀ o, w3.frozen? ⟨w5.heap.size, o, none⟩ = false := fun o => ((bcell h3).2 _ o qO).trans qi; have nl1 : w5.heap.size < w3.heap.size := qo) | (go_at_call 195; with_reducible refine Calls.mono (HL.out w5) ?_; rintro r3 w3 ⟨rfl, h3⟩; have hz3 := h3.size; (try simp at hz3); (try have ⟨hl3_0, hk3_0⟩ := qL w.heap.size w3.heap.size); (try have nv0_0 := memLater h3 nv0_0); (try have nv0_1 := memLater h3 nv0_1); (try have nz0 : ∀ o, w3.frozen? ⟨w2.heap.size, o, none⟩ = false := fun o => ((bcell h3).2 _ o qO).trans (nz0 o)); (try have nl0 : w2.heap.size < w3.heap.size := qo)))
  all_goals
   go_wp2_with fail
   refine (HF.out _).mono ?_
   rintro e w4 ⟨rfl, h4⟩
   obtain ⟨hc4, hf4, hz4⟩ := qb h4
   try simp at hz4
   go_wp2
   exact qV (.tuple #[.string X, .int .i64 F]) (by simp [results, Tryz.results218, go_sem]) rfl
theorem vDo_d (s X : ByteArray) (i j p q : Int) (l : Bool) (w : World)
  (HW : qH 218 #[.string s, .agg #[.int .i64 i, .int .i64 j, .bool l]] (.tuple #[.string X, .int .i64 q])) :
  qC 174 #[.int .u8 100, .string s, .agg #[.int .i64 i, .int .i64 j, .bool l], .int .i64 p] w (.tuple #[.string X, .int .i64 q]) := by
 go_enter Tryz.func174, Tryz.ntmps174
 go_wp2_with fail
 refine (HW.out _).mono ?_
 rintro e w1 ⟨rfl, h1⟩
 obtain ⟨hc1, hf1, hz1⟩ := qb h1
 try simp at hz1
 go_wp2
 exact qV (.tuple #[.string X, .int .i64 q]) (by simp [results, Tryz.results174, go_sem]) rfl
theorem vDo_c (s : ByteArray) (i j : Nat) (p : Int) (l : Bool) (w : World) (hs : s.size ≤ 1000) (h : i ≤ j) (hj : j ≤ s.size) :
  qC 174 #[.int .u8 99, .string s, .agg #[.int .i64 i, .int .i64 j, .bool l], .int .i64 p] w (.tuple #[.string (cutS s i j), .int .i64 i]) := by
 have HW : qH 192 #[.string s, .agg #[.int .i64 (i), .int .i64 (j)], .string ⟨#[]⟩] (.string (cutS s i j)) := fun ww => tWith_cut s i j ww hs h hj
 generalize cutS s i j = X at *
 go_enter Tryz.func174, Tryz.ntmps174
 go_wp2_with fail
 go_wp2_with fail
 go_region_held3 (fun ww => ww.cell? ⟨w.heap.size, 0, none⟩ = some (.int .i64 i) ∧ ww.cell? ⟨w.heap.size, 1, none⟩ = some (.int .i64 j)) (exact qK) ((go_at_call 192; refine (HW.out _).mono ?_; rintro r1 w1 ⟨rfl, h1⟩; obtain ⟨hc1, hf1, hz1⟩ := qb h1; (try simp at hz1); (try have ⟨hl1_0, hk1_0⟩ := qL w.heap.size w1.heap.size)))
 go_wp2
 exact qV (.tuple #[.string X, .int .i64 i]) (by simp [results, Tryz.results174, go_sem]) rfl
end Go.Proofs.YtlendfhehhacpaaGreat
