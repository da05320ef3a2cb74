/- A part. -/
import Derived.Test.YtlendfhehhacpaaGreatP08
import Derived.Laws.IdiomStrings
import Derived.Deep.LoopGhost
set_option linter.unusedVariables false
set_option linter.unusedSimpArgs false
set_option maxRecDepth 100000
set_option maxHeartbeats 8000000
namespace Go.Proofs.YtlendfhehhacpaaGreat
open Go.RowKit
def weI (z i j : Nat) : Nat := if j < z then i else i - 1
def weJ (z j : Nat) : Nat := if j < z then j + 1 else j
theorem we_le {z i j : Nat} (h : i ≤ j) (hj : j ≤ z) : weI z i j ≤ weJ z j ∧ weJ z j ≤ z := by unfold weI weJ; split <;> omega
theorem vWithEnds (s : ByteArray) (i j : Nat) (w : World) (hs : s.size ≤ 1000) (h : i ≤ j) (hj : j ≤ s.size) :
  qC 263 #[.string s, .agg #[.int .i64 (i), .int .i64 (j)]] w (.agg #[.int .i64 (weI s.size i j), .int .i64 (weJ s.size j)]) := by
 have hw1 : IntKind.i64.wrap ((j : Int) + 1) = (j : Int) + 1 := by rw [IntKind.wrap_i64]; omega
 have hw2 : IntKind.i64.wrap ((i : Int) - 1) = (i : Int) - 1 := by rw [IntKind.wrap_i64]; omega
 have HE : qH 246 #[.string s] (.int .i64 s.size) := fun ww => Calls.mono (tEnd_any s ww) (fun _ _ ⟨a, b⟩ => ⟨a, b ▸ Below.refl _ _⟩)
 unfold weI weJ
 by_cases h1 : j < s.size
 ·have i1 : ((j : Nat) : Int) < ((s.size : Nat) : Int) := by omega
  rw [if_pos h1, if_pos h1, show (((j + 1 : Nat)) : Int) = (j : Int) + 1 by omega]
  go_enter Tryz.func263, Tryz.ntmps263
  go_wp2_with fail
  go_region_held3 (fun ww => ww.cell? ⟨w.heap.size, 0, none⟩ = some (.int .i64 i) ∧ ww.cell? ⟨w.heap.size, 1, none⟩ = some (.int .i64 j)) (exact qK) ((go_at_call 246; refine (HE.out _).mono ?_; rintro r1 w1 ⟨rfl, h1⟩; obtain ⟨hc1, hf1, hz1⟩ := qb h1; (try simp at hz1); (try have ⟨hl1_0, hk1_0⟩ := qL w.heap.size w1.heap.size)))
  have l1 : w.heap.size < w1.heap.size := by omega
  have l2 : w.heap.size + 1 < w1.heap.size := by omega
  have r0 : w1.cell? ⟨w.heap.size + 1, 0, none⟩ = some (.int .i64 0) := (hc1 _ _ qi).trans qi
  have r1 : w1.cell? ⟨w.heap.size + 1, 1, none⟩ = some (.int .i64 0) := (hc1 _ _ qi).trans qi
  have rz : ∀ o, w1.frozen? ⟨w.heap.size + 1, o, none⟩ = false := fun o => (hf1 _ _ qi).trans qi
  have rz0 : ∀ o, w1.frozen? ⟨w.heap.size, o, none⟩ = false := fun o => (hf1 _ _ qs).trans qi
  clear hc1 hf1
  go_wp2
  exact qV (.agg #[.int .i64 (i), .int .i64 ((j : Int) + 1)]) (by simp [results, Tryz.results263, go_sem, r0, r1, rz, l2, l1]) rfl
 ·have i1 : ¬ ((j : Nat) : Int) < ((s.size : Nat) : Int) := by omega
  rw [if_neg h1, if_neg h1]
  by_cases h2 : 0 < i
  ·have i2 : (0 : Int) < ((i : Nat) : Int) := by omega
   rw [show (((i - 1 : Nat)) : Int) = (i : Int) - 1 by omega]
   go_enter Tryz.func263, Tryz.ntmps263
   go_wp2_with fail
   go_region_held3 (fun ww => ww.cell? ⟨w.heap.size, 0, none⟩ = some (.int .i64 i) ∧ ww.cell? ⟨w.heap.size, 1, none⟩ = some (.int .i64 j)) (exact qK) ((go_at_call 246; refine (HE.out _).mono ?_; rintro r1 w1 ⟨rfl, h1⟩; obtain ⟨hc1, hf1, hz1⟩ := qb h1; (try simp at hz1); (try have ⟨hl1_0, hk1_0⟩ := qL w.heap.size w1.heap.size)))
   have l1 : w.heap.size < w1.heap.size := by omega
   have l2 : w.heap.size + 1 < w1.heap.size := by omega
   have r0 : w1.cell? ⟨w.heap.size + 1, 0, none⟩ = some (.int .i64 0) := (hc1 _ _ qi).trans qi
   have r1 : w1.cell? ⟨w.heap.size + 1, 1, none⟩ = some (.int .i64 0) := (hc1 _ _ qi).trans qi
   have rz : ∀ o, w1.frozen? ⟨w.heap.size + 1, o, none⟩ = false := fun o => (hf1 _ _ qi).trans qi
   have rz0 : ∀ o, w1.frozen? ⟨w.heap.size, o, none⟩ = false := fun o => (hf1 _ _ qs).trans qi
   clear hc1 hf1
   go_wp2
   exact qV (.agg #[.int .i64 ((i : Int) - 1), .int .i64 (j)]) (by simp [results, Tryz.results263, go_sem, r0, r1, rz, l2, l1]) rfl
  ·have h3 : i = 0 := by omega
   have i2 : ¬ (0 : Int) < ((i : Nat) : Int) := by omega
   rw [show (((i - 1 : Nat)) : Int) = (i : Int) by omega]
   clear h3
   go_enter Tryz.func263, Tryz.ntmps263
   go_wp2_with fail
   go_region_held3 (fun ww => ww.cell? ⟨w.heap.size, 0, none⟩ = some (.int .i64 i) ∧ ww.cell? ⟨w.heap.size, 1, none⟩ = some (.int .i64 j)) (exact qK) ((go_at_call 246; refine (HE.out _).mono ?_; rintro r1 w1 ⟨rfl, h1⟩; obtain ⟨hc1, hf1, hz1⟩ := qb h1; (try simp at hz1); (try have ⟨hl1_0, hk1_0⟩ := qL w.heap.size w1.heap.size)))
   have l1 : w.heap.size < w1.heap.size := by omega
   have l2 : w.heap.size + 1 < w1.heap.size := by omega
   have r0 : w1.cell? ⟨w.heap.size + 1, 0, none⟩ = some (.int .i64 0) := (hc1 _ _ qi).trans qi
   have r1 : w1.cell? ⟨w.heap.size + 1, 1, none⟩ = some (.int .i64 0) := (hc1 _ _ qi).trans qi
   have rz : ∀ o, w1.frozen? ⟨w.heap.size + 1, o, none⟩ = false := fun o => (hf1 _ _ qi).trans qi
   have rz0 : ∀ o, w1.frozen? ⟨w.heap.size, o, none⟩ = false := fun o => (hf1 _ _ qs).trans qi
   clear hc1 hf1
   go_wp2
   exact qV (.agg #[.int .i64 (i), .int .i64 (j)]) (by simp [results, Tryz.results263, go_sem, r0, r1, rz, l2, l1]) rfl
def cutS (s : ByteArray) (i j : Nat) : ByteArray := s.extract 0 i ++ s.extract j s.size
theorem cutS_size {s : ByteArray} {i j : Nat} (h : i ≤ j) (hj : j ≤ s.size) : (cutS s i j).size = s.size - (j - i) := by
 unfold cutS
 rw [ByteArray.size_append, ByteArray.size_extract, ByteArray.size_extract]
 omega
theorem tWith_cut (s : ByteArray) (i j : Nat) (w : World) (hs : s.size ≤ 1000) (h : i ≤ j) (hj : j ≤ s.size) :
  qC 192 #[.string s, .agg #[.int .i64 (i), .int .i64 (j)], .string ⟨#[]⟩] w (.string (cutS s i j)) := by
 have := tWith_any s ⟨#[]⟩ i j i j w hs qd rfl rfl h hj
 rw [show s.extract 0 i ++ (⟨#[]⟩ : ByteArray) = s.extract 0 i from ByteArray.append_empty] at this
 exact this
theorem vWithout_lines (s : ByteArray) (i j : Nat) (w : World) (hs : s.size ≤ 1000) (h : i ≤ j) (hj : j ≤ s.size) :
  qC 218 #[.string s, .agg #[.int .i64 i, .int .i64 j, .bool true]] w (.tuple #[.string (cutS s (weI s.size i j) (weJ s.size j)), .int .i64 (Nib.frs (cutS s (weI s.size i j) (weJ s.size j)) (min i (cutS s (weI s.size i j) (weJ s.size j)).size))]) := by
 obtain ⟨g1, g2⟩ := we_le h hj
 have hz := cutS_size g1 g2
 have HE : qH 263 #[.string s, .agg #[.int .i64 (i), .int .i64 (j)]] (.agg #[.int .i64 (weI s.size i j), .int .i64 (weJ s.size j)]) := fun ww => vWithEnds s i j ww hs h hj
 have HW : qH 192 #[.string s, .agg #[.int .i64 (weI s.size i j), .int .i64 (weJ s.size j)], .string ⟨#[]⟩] (.string (cutS s (weI s.size i j) (weJ s.size j))) := fun ww => tWith_cut s _ _ ww hs g1 g2
 generalize weI s.size i j = I at *
 generalize weJ s.size j = J at *
 have hz2 : (cutS s I J).size ≤ 1000 := by omega
 generalize cutS s I J = X at *
 have HEnd : qH 246 #[.string X] (.int .i64 X.size) := fun ww => Calls.mono (tEnd_any X ww) (fun _ _ ⟨a, b⟩ => ⟨a, b ▸ Below.refl _ _⟩)
 have hm : min (i : Int) (X.size : Int) = ((min i X.size : Nat) : Int) := by omega
 have hk : min i X.size ≤ X.size := by omega
 generalize hM : min i X.size = M at *
 have HL : qH 195 #[.string X, .int .i64 M] (.agg #[.int .i64 (Nib.beg X M), .int .i64 (Nib.fin X M)]) := fun ww => tLine_any X M M ww hz2 rfl hk
 have HF : qH 243 #[.string X, .agg #[.int .i64 (Nib.beg X M), .int .i64 (Nib.fin X M)]] (.int .i64 (Nib.frs X M)) := fun ww => tFirst_any X _ _ M ww hz2 hk rfl rfl
 generalize Nib.frs X M = F at *
 generalize Nib.beg X M = LB at *
 generalize Nib.fin X M = LE at *
 clear hz g1 g2
 by_cases hle : X.size < i
 ·have hi : ((X.size : Nat) : Int) < ((i : Nat) : Int) := by omega
  have e : M = X.size := by omega
  subst e
  clear hM hm hk
  go_enter Tryz.func218, Tryz.ntmps218
  go_wp2_with fail
  refine (HE.out _).mono ?_
  rintro e w1 ⟨rfl, h1⟩
  obtain ⟨hc1, hf1, hz1⟩ := qb h1
  try simp at hz1
  have a0 : w1.cell? ⟨w.heap.size, 0, none⟩ = some (.int .i64 i) := (hc1 _ _ qi).trans qi
  have al : w.heap.size < w1.heap.size := by omega
  go_wp2_with fail
  refine (HW.out _).mono ?_
  rintro e w2 ⟨rfl, h2⟩
  obtain ⟨hc2, hf2, hz2⟩ := qb h2
  try simp at hz2
  have b0 : w2.cell? ⟨w.heap.size, 0, none⟩ = some (.int .i64 i) := (hc2 _ _ qO).trans a0
  have bl : w.heap.size < w2.heap.size := by omega
  clear hc1 hf1 hc2 hf2 a0
  go_wp2_with fail
  go_region_held3 (fun ww => ww.cell? ⟨w.heap.size, 0, none⟩ = some (.int .i64 i)) ((first | (go_simp; done) | ((repeat exact qM); done))) (first | (go_at_call 246; with_reducible refine Calls.mono (HEnd.out (w2.alloc (.cells #[.int .i64 0, .int .i64 0] 128)).drew) ?_; rintro r5 w5 ⟨rfl, h5⟩; have hz5 := h5.size; (try simp at hz5); (try have ⟨hl5_0, hk5_0⟩ := qL w.heap.size w5.heap.size); have nv0_0 : w5.cell? ⟨w2.heap.size, 0, none⟩ = some (.int .i64 0) := ((bcell h5).1 _ _ qO).trans qi; have nv0_1 : w5.cell? ⟨w2.heap.size, 1, none⟩ = some (.int .i64 0) := ((bcell h5).1 _ _ qO).trans qi; have nz0 : ∀ o, w5.frozen? ⟨w2.heap.size, o, none⟩ = false := fun o => ((bcell h5).2 _ o qO).trans qi; have nl0 : w2.heap.size < w5.heap.size := qo) | (go_at_call 246; with_reducible refine Calls.mono (HEnd.out w2.drew) ?_; rintro r5 w5 ⟨rfl, h5⟩; have hz5 := h5.size; (try simp at hz5); (try have ⟨hl5_0, hk5_0⟩ := qL w.heap.size w5.heap.size)) | (go_at_call 195; with_reducible refine Calls.mono (HL.out (w5.alloc (.cells #[.int .i64 0, .int .i64 0] 128))) ?_; rintro r3 w3 ⟨rfl, h3⟩; have hz3 := h3.size; (try simp at hz3); (try have ⟨hl3_0, hk3_0⟩ := qL w.heap.size w3.heap.size); (try have nv0_0 := memLater h3 nv0_0); (try have nv0_1 := memLater h3 nv0_1); (try have nz0 : ∀ o, w3.frozen? ⟨w2.heap.size, o, none⟩ = false := fun o => ((bcell h3).2 _ o qO).trans (nz0 o)); (try have nl0 : w2.heap.size < w3.heap.size := qo); have nv1_0 : w3.cell? ⟨w5.heap.size, 0, none⟩ = some (.int .i64 0) := ((bcell h3).1 _ _ qO).trans qi; have nv1_1 : w3.cell? ⟨w5.heap.size, 1, none⟩ = some (.int .i64 0) := ((bcell h3).1 _ _ qO).trans qi; have nz1 : ∀ o, w3.frozen? ⟨w5.heap.size, o, none⟩ = false := fun o => ((bcell h3).2 _ o qO).trans qi; have nl1 : w5.heap.size < w3.heap.size := qo) | (go_at_call 195; with_reducible refine Calls.mono (HL.out w5) ?_; rintro r3 w3 ⟨rfl, h3⟩; have hz3 := h3.size; (try simp at hz3); (try have ⟨hl3_0, hk3_0⟩ := qL w.heap.size w3.heap.size); (try have nv0_0 := memLater h3 nv0_0); (try have nv0_1 := memLater h3 nv0_1); (try have nz0 : ∀ o, w3.frozen? ⟨w2.heap.size, o, none⟩ = false := fun o => ((bcell h3).2 _ o qO).trans (nz0 o)); (try have nl0 : w2.heap.size < w3.heap.size := qo)))
  all_goals
   go_wp2_with fail
   refine (HF.out _).mono ?_
   rintro e w4 ⟨rfl, h4⟩
   obtain ⟨hc4, hf4, hz4⟩ := qb h4
   try simp at hz4
   go_wp2
   exact qV (.tuple #[.string X, .int .i64 F]) (by simp [results, Tryz.results218, go_sem]) rfl
 ·have hi : ¬ ((X.size : Nat) : Int) < ((i : Nat) : Int) := by omega
  have e : M = i := by omega
  subst e
  clear hM hm hk
  go_enter Tryz.func218, Tryz.ntmps218
  go_wp2_with fail
  refine (HE.out _).mono ?_
  rintro e w1 ⟨rfl, h1⟩
  obtain ⟨hc1, hf1, hz1⟩ := qb h1
  try simp at hz1
  have a0 : w1.cell? ⟨w.heap.size, 0, none⟩ = some (.int .i64 M) := (hc1 _ _ qi).trans qi
  have al : w.heap.size < w1.heap.size := by omega
  go_wp2_with fail
  refine (HW.out _).mono ?_
  rintro e w2 ⟨rfl, h2⟩
  obtain ⟨hc2, hf2, hz2⟩ := qb h2
  try simp at hz2
  have b0 : w2.cell? ⟨w.heap.size, 0, none⟩ = some (.int .i64 M) := (hc2 _ _ qO).trans a0
  have bl : w.heap.size < w2.heap.size := by omega
  clear hc1 hf1 hc2 hf2 a0
  go_wp2_with fail
  go_region_held3 (fun ww => ww.cell? ⟨w.heap.size, 0, none⟩ = some (.int .i64 M)) ((first | (go_simp; done) | ((repeat exact qM); done))) (first | (go_at_call 246; with_reducible refine Calls.mono (HEnd.out (w2.alloc (.cells #[.int .i64 0, .int .i64 0] 128)).drew) ?_; rintro r5 w5 ⟨rfl, h5⟩; have hz5 := h5.size; (try simp at hz5); (try have ⟨hl5_0, hk5_0⟩ := qL w.heap.size w5.heap.size); have nv0_0 : w5.cell? ⟨w2.heap.size, 0, none⟩ = some (.int .i64 0) := ((bcell h5).1 _ _ qO).trans qi; have nv0_1 : w5.cell? ⟨w2.heap.size, 1, none⟩ = some (.int .i64 0) := ((bcell h5).1 _ _ qO).trans qi; have nz0 : ∀ o, w5.frozen? ⟨w2.heap.size, o, none⟩ = false := fun o => ((bcell h5).2 _ o qO).trans qi; have nl0 : w2.heap.size < w5.heap.size := qo) | (go_at_call 246; with_reducible refine Calls.mono (HEnd.out w2.drew) ?_; rintro r5 w5 ⟨rfl, h5⟩; have hz5 := h5.size; (try simp at hz5); (try have ⟨hl5_0, hk5_0⟩ := qL w.heap.size w5.heap.size)) | (go_at_call 195; with_reducible refine Calls.mono (HL.out (w5.alloc (.cells #[.int .i64 0, .int .i64 0] 128))) ?_; rintro r3 w3 ⟨rfl, h3⟩; have hz3 := h3.size; (try simp at hz3); (try have ⟨hl3_0, hk3_0⟩ := qL w.heap.size w3.heap.size); (try have nv0_0 := memLater h3 nv0_0); (try have nv0_1 := memLater h3 nv0_1); (try have nz0 : ∀ o, w3.frozen? ⟨w2.heap.size, o, none⟩ = false := fun o => ((bcell h3).2 _ o qO).trans (nz0 o)); (try have nl0 : w2.heap.size < w3.heap.size := qo); have nv1_0 : w3.cell? ⟨w5.heap.size, 0, none⟩ = some (.int .i64 0) := ((bcell h3).1 _ _ qO).trans qi; have nv1_1 : w3.cell? ⟨w5.heap.size, 1, none⟩ = some (.int .i64 0) := ((bcell h3).1 _ _ qO).trans qi; have nz1 : ∀ o, w3.frozen? ⟨w5.heap.size, o, none⟩ = false := fun o => ((bcell h3).2 _ o qO).trans qi; have nl1 : w5.heap.size < w3.heap.size := qo) | (go_at_call 195; with_reducible refine Calls.mono (HL.out w5) ?_; rintro r3 w3 ⟨rfl, h3⟩; have hz3 := h3.size; (try simp at hz3); (try have ⟨hl3_0, hk3_0⟩ := qL w.heap.size w3.heap.size); (try have nv0_0 := memLater h3 nv0_0); (try have nv0_1 := memLater h3 nv0_1); (try have nz0 : ∀ o, w3.frozen? ⟨w2.heap.size, o, none⟩ = false := fun o => ((bcell h3).2 _ o qO).trans (nz0 o)); (try have nl0 : w2.heap.size < w3.heap.size := qo)))
  all_goals
   go_wp2_with fail
   refine (HF.out _).mono ?_
   rintro e w4 ⟨rfl, h4⟩
   obtain ⟨hc4, hf4, hz4⟩ := qb h4
   try simp at hz4
   go_wp2
   exact qV (.tuple #[.string X, .int .i64 F]) (by simp [results, Tryz.results218, go_sem]) rfl
theorem vDo_d (s X : ByteArray) (i j p q : Int) (l : Bool) (w : World)
  (HW : qH 218 #[.string s, .agg #[.int .i64 i, .int .i64 j, .bool l]] (.tuple #[.string X, .int .i64 q])) :
  qC 174 #[.int .u8 100, .string s, .agg #[.int .i64 i, .int .i64 j, .bool l], .int .i64 p] w (.tuple #[.string X, .int .i64 q]) := by
 go_enter Tryz.func174, Tryz.ntmps174
 go_wp2_with fail
 refine (HW.out _).mono ?_
 rintro e w1 ⟨rfl, h1⟩
 obtain ⟨hc1, hf1, hz1⟩ := qb h1
 try simp at hz1
 go_wp2
 exact qV (.tuple #[.string X, .int .i64 q]) (by simp [results, Tryz.results174, go_sem]) rfl
theorem vDo_c (s : ByteArray) (i j : Nat) (p : Int) (l : Bool) (w : World) (hs : s.size ≤ 1000) (h : i ≤ j) (hj : j ≤ s.size) :
  qC 174 #[.int .u8 99, .string s, .agg #[.int .i64 i, .int .i64 j, .bool l], .int .i64 p] w (.tuple #[.string (cutS s i j), .int .i64 i]) := by
 have HW : qH 192 #[.string s, .agg #[.int .i64 (i), .int .i64 (j)], .string ⟨#[]⟩] (.string (cutS s i j)) := fun ww => tWith_cut s i j ww hs h hj
 generalize cutS s i j = X at *
 go_enter Tryz.func174, Tryz.ntmps174
 go_wp2_with fail
 go_wp2_with fail
 go_region_held3 (fun ww => ww.cell? ⟨w.heap.size, 0, none⟩ = some (.int .i64 i) ∧ ww.cell? ⟨w.heap.size, 1, none⟩ = some (.int .i64 j)) (exact qK) ((go_at_call 192; refine (HW.out _).mono ?_; rintro r1 w1 ⟨rfl, h1⟩; obtain ⟨hc1, hf1, hz1⟩ := qb h1; (try simp at hz1); (try have ⟨hl1_0, hk1_0⟩ := qL w.heap.size w1.heap.size)))
 go_wp2
 exact qV (.tuple #[.string X, .int .i64 i]) (by simp [results, Tryz.results174, go_sem]) rfl
def smallU (c : UInt8) : UInt8 := if 65 ≤ c.toNat ∧ c.toNat ≤ 90 then (c.toNat + 32).toUInt8 else c
def greatU (c : UInt8) : UInt8 := if 97 ≤ c.toNat ∧ c.toNat ≤ 122 then (c.toNat - 32).toUInt8 else c
def turnU (c : UInt8) : UInt8 := if smallU c = c then greatU c else smallU c
theorem smallU_nat (c : UInt8) : ((smallU c).toNat : Int) = if 65 ≤ (c.toNat : Int) ∧ (c.toNat : Int) ≤ 90 then (c.toNat : Int) + 32 else c.toNat := by
 unfold smallU
 by_cases h : 65 ≤ c.toNat ∧ c.toNat ≤ 90
 ·rw [if_pos h, if_pos qo, Nat.toUInt8_eq, UInt8.toNat_ofNat']
  omega
 ·rw [if_neg h, if_neg qo]
theorem greatU_nat (c : UInt8) : ((greatU c).toNat : Int) = if 97 ≤ (c.toNat : Int) ∧ (c.toNat : Int) ≤ 122 then (c.toNat : Int) - 32 else c.toNat := by
 unfold greatU
 by_cases h : 97 ≤ c.toNat ∧ c.toNat ≤ 122
 ·rw [if_pos h, if_pos qo, Nat.toUInt8_eq, UInt8.toNat_ofNat']
  omega
 ·rw [if_neg h, if_neg qo]
theorem tSmall (c : UInt8) (w : World) :
  Calls Tryz.prog 220 #[.int .u8 c.toNat] w fun e w' => e = .returned (.int .u8 (smallU c).toNat) ∧ w' = w := by
 have hc := c.toNat_lt
 have hx := smallU_nat c
 generalize ((smallU c).toNat : Int) = X at *
 generalize hn : (c.toNat : Int) = n at *
 by_cases h1 : 65 ≤ n
 ·by_cases h2 : n ≤ 90
  ·rw [if_pos ⟨h1, h2⟩] at hx
   have w1 : IntKind.u8.wrap (n - 65) = n - 65 := by rw [IntKind.wrap_u8]; omega
   have w2 : IntKind.u8.wrap (n - 65 + 97) = n - 65 + 97 := by rw [IntKind.wrap_u8]; omega
   subst hx
   go_enter Tryz.func220, Tryz.ntmps220
   go_wp2
   go_ret
   exact ⟨by show Ending.returned (Value.int IntKind.u8 (n - 65 + 97)) = _; rw [show n - 65 + 97 = n + 32 by omega], rfl⟩
  ·rw [if_neg qo] at hx
   subst hx
   go_enter Tryz.func220, Tryz.ntmps220
   go_wp2
   go_ret
   exact ⟨rfl, rfl⟩
 ·rw [if_neg qo] at hx
  subst hx
  go_enter Tryz.func220, Tryz.ntmps220
  go_wp2
  go_ret
  exact ⟨rfl, rfl⟩
theorem tGreat (c : UInt8) (w : World) :
  Calls Tryz.prog 222 #[.int .u8 c.toNat] w fun e w' => e = .returned (.int .u8 (greatU c).toNat) ∧ w' = w := by
 have hc := c.toNat_lt
 have hx := greatU_nat c
 generalize ((greatU c).toNat : Int) = X at *
 generalize hn : (c.toNat : Int) = n at *
 by_cases h1 : 97 ≤ n
 ·by_cases h2 : n ≤ 122
  ·rw [if_pos ⟨h1, h2⟩] at hx
   have w1 : IntKind.u8.wrap (n - 97) = n - 97 := by rw [IntKind.wrap_u8]; omega
   have w2 : IntKind.u8.wrap (n - 97 + 65) = n - 97 + 65 := by rw [IntKind.wrap_u8]; omega
   subst hx
   go_enter Tryz.func222, Tryz.ntmps222
   go_wp2
   go_ret
   exact ⟨by show Ending.returned (Value.int IntKind.u8 (n - 97 + 65)) = _; rw [show n - 97 + 65 = n - 32 by omega], rfl⟩
  ·rw [if_neg qo] at hx
   subst hx
   go_enter Tryz.func222, Tryz.ntmps222
   go_wp2
   go_ret
   exact ⟨rfl, rfl⟩
 ·rw [if_neg qo] at hx
  subst hx
  go_enter Tryz.func222, Tryz.ntmps222
  go_wp2
  go_ret
  exact ⟨rfl, rfl⟩
theorem tTurnedB (c : UInt8) (w : World) :
  Calls Tryz.prog 194 #[.int .u8 c.toNat] w fun e w' => e = .returned (.int .u8 (turnU c).toNat) ∧ w' = w := by
 have H1 : Hid (∀ ww, Calls Tryz.prog 220 #[.int .u8 c.toNat] ww fun e w' => e = .returned (.int .u8 (smallU c).toNat) ∧ w' = ww) := fun ww => tSmall c ww
 have H2 : Hid (∀ ww, Calls Tryz.prog 222 #[.int .u8 c.toNat] ww fun e w' => e = .returned (.int .u8 (greatU c).toNat) ∧ w' = ww) := fun ww => tGreat c ww
 unfold turnU
 by_cases h : smallU c = c
 ·rw [if_pos h]
  rw [h] at H1
  generalize ((greatU c).toNat : Int) = X at *
  go_enter Tryz.func194, Tryz.ntmps194
  go_wp2_with fail
  refine (H1.out _).mono ?_
  rintro e w' ⟨rfl, rfl⟩
  go_wp2_with fail
  refine (H2.out _).mono ?_
  rintro e w' ⟨rfl, rfl⟩
  go_wp2
  go_ret
  exact ⟨rfl, rfl⟩
 ·rw [if_neg h]
  have hne : ¬ ((smallU c).toNat : Int) = (c.toNat : Int) := by
   intro e
   apply h
   exact UInt8.toNat_inj.1 qo
  generalize ((smallU c).toNat : Int) = X at *
  go_enter Tryz.func194, Tryz.ntmps194
  go_wp2_with fail
  refine (H1.out _).mono ?_
  rintro e w' ⟨rfl, rfl⟩
  go_wp2
  go_ret
  exact ⟨rfl, rfl⟩
structure Byt (w : World) (b : Nat) (l : List UInt8) : Prop where
 c : ∀ (j : Nat) (h : j < l.length), w.cell? ⟨b, j, none⟩ = some (.int .u8 (l[j].toNat : Int))
 fz : ∀ j : Nat, j < l.length → w.frozen? ⟨b, j, none⟩ = false
 lt : b < w.heap.size
theorem Byt.below {w w' : World} {b : Nat} {l : List UInt8} (h : Byt w b l) (hb : Below w.heap.size w w') : Byt w' b l :=
 ⟨fun j hj => (hb.cell (p := ⟨b, j, none⟩) h.lt).trans (h.c j hj), fun j hj => (hb.frozen (p := ⟨b, j, none⟩) h.lt).trans (h.fz j hj), Nat.lt_of_lt_of_le h.lt hb.size⟩
theorem Byt.set {w : World} {b : Nat} {l : List UInt8} (h : Byt w b l) (k : Nat) (x : UInt8) (hk : k < l.length) : Byt (w.setCell ⟨b, k, none⟩ (.int .u8 x.toNat)) b (l.set k x) := by
 refine ⟨fun j hj => ?_, fun j hj => ?_, by simpa [World.setCell] using h.lt⟩
 ·by_cases e : k = j
  ·subst e
   have := h.c k hk
   have hfz := h.fz k hk
   go_simp
  ·have hj' : j < l.length := by simpa using hj
   have := h.c j hj'
   rw [World.cell?_setCell_other _ _ _ _ qf, this]
   simp [List.getElem_set, e]
 ·rw [frozen_set]; exact h.fz j (by simpa using hj)
theorem tEach (s : ByteArray) (K : Nat) (F : UInt8 → UInt8) (w : World) (hs : s.size ≤ 1000)
  (HEn : ∀ args ww, (callFunc K args).run Tryz.prog ww = .ok (.enter K args) ww)
  (HF : Hid (∀ (c : UInt8) ww, Calls Tryz.prog K #[.int .u8 c.toNat] ww fun e w' => e = .returned (.int .u8 (F c).toNat) ∧ w' = ww)) :
  qC 193 #[.string s, .func (.func K) #[] #[]] w (.string ⟨(s.data.toList.map F).toArray⟩) := by
 have hcv := fun ww : World => run_bytes_of_string (P := Tryz.prog) ww 9 48 5 s Tryz.underlying9 Tryz.underlying48 Tryz.underlying5
 have hlen : s.data.toList.length = s.size := by rw [Array.length_toList]; rfl
 have HL : Hid (s.data.toList.length = s.size) := hlen
 have B0 : Byt (w.alloc (.cells (bytesRow s (grownCap w s.size 0 5)) 5 ((bytesRow s (grownCap w s.size 0 5)).size, (bytesRow s (grownCap w s.size 0 5)).size + 1))).drew w.heap.size s.data.toList := by
  refine ⟨fun j hj => ?_, fun j hj => ?_, by simp⟩
  ·refine memLater ((Below.refl _ _).drew) ?_
   rw [World.cell?_alloc_mark, bytesRow_at s _ j (by rw [← Array.length_toList]; exact hj)]
   try simp
  ·have hz : j < (bytesRow s (grownCap w s.size 0 5)).size := by
    have : s.data.size = s.size := rfl
    simp [bytesRow]
    omega
   have := World.frozen?_alloc_mark w (bytesRow s (grownCap w s.size 0 5)) 5 (bytesRow s (grownCap w s.size 0 5)).size ((bytesRow s (grownCap w s.size 0 5)).size + 1) j
   refine Eq.trans ?_ (this.trans ?_)
   ·rfl
   ·generalize (bytesRow s (grownCap w s.size 0 5)).size = n at *
    simp
    omega
 have Bl : Below w.heap.size w (w.alloc (.cells (bytesRow s (grownCap w s.size 0 5)) 5 ((bytesRow s (grownCap w s.size 0 5)).size, (bytesRow s (grownCap w s.size 0 5)).size + 1))).drew := by
  repeat exact qB
 generalize s.data.toList = l at *
 clear hlen
 go_enter Tryz.func193, Tryz.ntmps193
 go_wp2_with fail
 generalize (w.alloc (.cells (bytesRow s (grownCap w s.size 0 5)) 5 ((bytesRow s (grownCap w s.size 0 5)).size, (bytesRow s (grownCap w s.size 0 5)).size + 1))).drew = W1 at *
 go_loopw [12] (fun a wr => ∃ (k : Nat), k ≤ s.size ∧ a = .int .i64 k ∧ Byt wr w.heap.size ((l.take k).map F ++ l.drop k) ∧ Below w.heap.size w wr) (fun a _ => s.size - (intOf a).toNat)
 case atStart => exact ⟨0, Nat.zero_le _, rfl, by simpa using B0, Bl⟩
 case round =>
  clear B0 Bl
  obtain ⟨k, hk, rfl, B, hB⟩ := hrel
  by_cases hlt : k < s.size
  ·have hkl : k < l.length := by rw [HL.out]; exact hlt
   have hlL : ((l.take k).map F ++ l.drop k).length = l.length := by simp; omega
   have hc := B.c k qo
   have hfz := B.fz k qo
   have hlw := B.lt
   have hx : ((l.take k).map F ++ l.drop k)[k]'(by omega) = l[k] := by
    rw [List.getElem_append_right qs]
    simp
    congr 1
    omega
   rw [hx] at hc
   have HFk : Hid (∀ ww, Calls Tryz.prog K #[.int .u8 (l[k]'hkl).toNat] ww fun e w' => e = .returned (.int .u8 (F (l[k]'hkl)).toNat) ∧ w' = ww) := fun ww => HF.out _ ww
   have i1 : ((k : Nat) : Int) < ((s.size : Nat) : Int) := by omega
   go_wp2_with fail
   refine (HFk.out _).mono ?_
   rintro e w' ⟨rfl, rfl⟩
   have B2 := B.set k (F (l[k]'hkl)) qo
   go_wp2
   go_round
   case rel =>
    refine ⟨k + 1, by omega, by go_num, ?_, ?_⟩
    ·have el : ((l.take k).map F ++ l.drop k).set k (F (l[k]'hkl)) = (l.take (k + 1)).map F ++ l.drop (k + 1) := by
      rw [List.set_append_right _ _ qs]
      have e1 : k - (List.map F (List.take k l)).length = 0 := by simp; omega
      rw [e1, List.drop_eq_getElem_cons hkl, List.set_cons_zero, List.take_succ_eq_append_getElem hkl, List.map_append]
      simp
     rw [← el]
     exact B2
    ·repeat exact qB
   case measure => simp [intOf] <;> omega
  ·have hns : ¬ ((k : Nat) : Int) < ((s.size : Nat) : Int) := by omega
   have ek : k = s.size := by omega
   subst ek
   have hbk := run_convert_bytes_back (P := Tryz.prog) wr 48 9 5 ⟨w.heap.size, 0, none⟩ (grownCap w s.size 0 5) (l.map F) Tryz.underlying48 Tryz.underlying5 Tryz.underlying9 (by
    intro j hj
    have hj' : j < ((l.take s.size).map F ++ l.drop s.size).length := by simp at hj ⊢; omega
    have := B.c j hj'
    have e2 : (l.take s.size).map F ++ l.drop s.size = l.map F := by
     rw [← HL.out, List.take_length, List.drop_length, List.append_nil]
    simp only [e2] at this
    rw [Go.WideShapes.add_plain, Nat.zero_add]
    exact this)
   rw [List.length_map, HL.out] at hbk
   go_wp2
   go_ret
   refine ⟨rfl, ?_⟩
   repeat exact qB
structure Tri (w : World) (b : Nat) (s : ByteArray) (p : Int) (v : Bool) : Prop where
 c0 : w.cell? ⟨b, 0, none⟩ = some (.string s)
 c1 : w.cell? ⟨b, 1, none⟩ = some (.int .i64 p)
 c2 : w.cell? ⟨b, 2, none⟩ = some (.bool v)
 fz : ∀ o, w.frozen? ⟨b, o, none⟩ = false
 lt : b < w.heap.size
theorem Tri.of_block {w w' : World} {b : Nat} {s : ByteArray} {p : Int} {v : Bool} (h : Tri w b s p v) (hb : w'.heap[b]? = w.heap[b]?) (hz : w.heap.size ≤ w'.heap.size) : Tri w' b s p v := by
 have hc : ∀ o, w'.cell? ⟨b, o, none⟩ = w.cell? ⟨b, o, none⟩ := fun o => World.cell?_of_block (w := w) hb
 have hf : ∀ o, w'.frozen? ⟨b, o, none⟩ = w.frozen? ⟨b, o, none⟩ := fun o => World.frozen?_of_block (w := w) hb
 exact ⟨(hc _).trans h.c0, (hc _).trans h.c1, (hc _).trans h.c2, fun o => (hf o).trans (h.fz o), Nat.lt_of_lt_of_le h.lt hz⟩
theorem Tri.below {w w' : World} {b : Nat} {s : ByteArray} {p : Int} {v : Bool} (h : Tri w b s p v) (hb : Below w.heap.size w w') : Tri w' b s p v := h.of_block (hb.block b h.lt) hb.size
theorem Tri.alloc {w : World} {b : Nat} {s : ByteArray} {p : Int} {v : Bool} (h : Tri w b s p v) (o : Obj) : Tri (w.alloc o) b s p v := h.below ((Below.refl _ _).alloc (Nat.le_refl _) _)
theorem Tri.drewN {w : World} {b : Nat} {s : ByteArray} {p : Int} {v : Bool} (h : Tri w b s p v) (k : Nat) : Tri (w.drewN k) b s p v := h.below (below_drewN (Below.refl _ _) _)
theorem Tri.drew {w : World} {b : Nat} {s : ByteArray} {p : Int} {v : Bool} (h : Tri w b s p v) : Tri w.drew b s p v := h.below (Below.refl _ _).drew
theorem Tri.other {w : World} {b : Nat} {s : ByteArray} {p : Int} {v : Bool} (h : Tri w b s p v) {q : Addr} (hp : b ≠ q.block) (u : Value) : Tri (w.setCell q u) b s p v :=
 h.of_block (Below.heap_setCell _ _ _ _ hp) (by simp [World.setCell])
theorem Tri.new (w : World) (s : ByteArray) (p : Int) (v : Bool) (t : TypeId) : Tri (w.alloc (.cells #[.string s, .int .i64 p, .bool v] t)) w.heap.size s p v :=
 ⟨by simp, by simp, by simp, by simp, by simp⟩
structure Tre (w : World) (b : Nat) (s p : Int) (v : Bool) : Prop where
 c0 : w.cell? ⟨b, 0, none⟩ = some (.int .i64 s)
 c1 : w.cell? ⟨b, 1, none⟩ = some (.int .i64 p)
 c2 : w.cell? ⟨b, 2, none⟩ = some (.bool v)
 fz : ∀ o, w.frozen? ⟨b, o, none⟩ = false
 lt : b < w.heap.size
theorem Tre.of_block {w w' : World} {b : Nat} {s p : Int} {v : Bool} (h : Tre w b s p v) (hb : w'.heap[b]? = w.heap[b]?) (hz : w.heap.size ≤ w'.heap.size) : Tre w' b s p v := by
 have hc : ∀ o, w'.cell? ⟨b, o, none⟩ = w.cell? ⟨b, o, none⟩ := fun o => World.cell?_of_block (w := w) hb
 have hf : ∀ o, w'.frozen? ⟨b, o, none⟩ = w.frozen? ⟨b, o, none⟩ := fun o => World.frozen?_of_block (w := w) hb
 exact ⟨(hc _).trans h.c0, (hc _).trans h.c1, (hc _).trans h.c2, fun o => (hf o).trans (h.fz o), Nat.lt_of_lt_of_le h.lt hz⟩
theorem Tre.below {w w' : World} {b : Nat} {s p : Int} {v : Bool} (h : Tre w b s p v) (hb : Below w.heap.size w w') : Tre w' b s p v := h.of_block (hb.block b h.lt) hb.size
theorem Tre.alloc {w : World} {b : Nat} {s p : Int} {v : Bool} (h : Tre w b s p v) (o : Obj) : Tre (w.alloc o) b s p v := h.below ((Below.refl _ _).alloc (Nat.le_refl _) _)
theorem Tre.drewN {w : World} {b : Nat} {s p : Int} {v : Bool} (h : Tre w b s p v) (k : Nat) : Tre (w.drewN k) b s p v := h.below (below_drewN (Below.refl _ _) _)
theorem Tre.drew {w : World} {b : Nat} {s p : Int} {v : Bool} (h : Tre w b s p v) : Tre w.drew b s p v := h.below (Below.refl _ _).drew
theorem Tre.other {w : World} {b : Nat} {s p : Int} {v : Bool} (h : Tre w b s p v) {q : Addr} (hp : b ≠ q.block) (u : Value) : Tre (w.setCell q u) b s p v :=
 h.of_block (Below.heap_setCell _ _ _ _ hp) (by simp [World.setCell])
theorem Tre.new (w : World) (s p : Int) (v : Bool) (t : TypeId) : Tre (w.alloc (.cells #[.int .i64 s, .int .i64 p, .bool v] t)) w.heap.size s p v :=
 ⟨by simp, by simp, by simp, by simp, by simp⟩
theorem tRun_ex (s : ByteArray) (k : Nat) (g : Bool) (hs : s.size ≤ 1000) (hk : k ≤ s.size) :
  ∃ i j : Nat, i ≤ k ∧ k ≤ j ∧ j ≤ s.size ∧ ∀ ww, qC 256 #[.string s, .int .i64 k, .bool g] ww (.agg #[.int .i64 (i), .int .i64 (j)]) := by
 by_cases hn : k < s.size ∧ Nib.bt s k ≠ 10
 ·exact ⟨Nib.runB s k g, Nib.wrun s k g, Nib.runB_le s k g, Nib.wrun_ge s k g, Nib.wrun_le hk, fun ww => tRun_any s k k g ww hs rfl hn.1 hn.2⟩
 ·exact ⟨k, k, Nat.le_refl _, Nat.le_refl _, hk, fun ww => tRun_none s k k g ww hs rfl hk (fun h => by
   by_cases e : Nib.bt s k = 10
   ·exact e
   ·exact absurd ⟨h, e⟩ hn)⟩
theorem oPair (s : ByteArray) (p a b : Int) (wh : Bool) (w : World) (ha : -5000 ≤ a ∧ a ≤ 5000) (hb : -5000 ≤ b ∧ b ≤ 5000) :
  qC 261 #[.agg #[.string s, .int .i64 p, .bool wh], .agg #[.int .i64 (a), .int .i64 (b)]] w (.agg #[.int .i64 (if wh then a else a + 1), .int .i64 (if wh then b else b - 1), .bool false]) := by
 have hwr1 : IntKind.i64.wrap (a + 1) = a + 1 := by rw [IntKind.wrap_i64]; omega
 have hwr2 : IntKind.i64.wrap (b - 1) = b - 1 := by rw [IntKind.wrap_i64]; omega
 cases wh
 ·go_enter Tryz.func261, Tryz.ntmps261
  go_wp2
  refine bodyPost_ret (v := .agg #[.int .i64 (a + 1), .int .i64 (b - 1), .bool false]) (by simp [results, Tryz.results261, go_sem]) rfl ⟨rfl, ?_⟩
  repeat (with_reducible first | exact Below.refl _ _ | refine b_s ?_ _ | refine b_a ?_ _ | refine Below.drew ?_ | refine below_drewN ?_ _)
 ·go_enter Tryz.func261, Tryz.ntmps261
  go_wp2
  refine bodyPost_ret (v := .agg #[.int .i64 a, .int .i64 b, .bool false]) (by simp [results, Tryz.results261, go_sem]) rfl ⟨rfl, ?_⟩
  repeat (with_reducible first | exact Below.refl _ _ | refine b_s ?_ _ | refine b_a ?_ _ | refine Below.drew ?_ | refine below_drewN ?_ _)
theorem oBlanks_none (s : ByteArray) (p a : Int) (wh : Bool) (w : World) :
  qC 257 #[.agg #[.string s, .int .i64 p, .bool wh], .agg #[.int .i64 (a), .int .i64 (a)]] w (.bool false) := by
 have HE : qH 185 #[.agg #[.int .i64 (a), .int .i64 (a)]] (.bool true) := by
  intro ww
  have := tIsEmpty_any a a ww
  rw [show (a == a) = true by simp] at this
  exact this
 go_enter Tryz.func257, Tryz.ntmps257
 go_wp2_with fail
 refine (HE.out _).mono ?_
 rintro e w1 ⟨rfl, h1⟩
 obtain ⟨hc1, hf1, hz1⟩ := qb h1
 try simp at hz1
 go_wp2
 refine bodyPost_ret (v := .bool false) (by simp [results, Tryz.results257, go_sem]) rfl ⟨rfl, ?_⟩
 repeat (with_reducible first | exact Below.refl _ _ | refine b_s ?_ _ | refine b_a ?_ _ | refine Below.drew ?_ | refine below_drewN ?_ _ | refine b_t ?_ h1)
theorem oBlanks_some (s : ByteArray) (p : Int) (i j : Nat) (wh : Bool) (w : World) (hij : i < j) (hj : j ≤ s.size) :
  qC 257 #[.agg #[.string s, .int .i64 p, .bool wh], .agg #[.int .i64 (i), .int .i64 (j)]] w (.bool (Nib.cls ((((s[i]'(by omega)).toNat : Nat) : Int)) false == 0)) := by
 have HE : qH 185 #[.agg #[.int .i64 (i), .int .i64 (j)]] (.bool false) := by
  intro ww
  have := tIsEmpty_any i j ww
  rw [show ((i : Int) == j) = false by simp; omega] at this
  exact this
 have hi : i < s.size := by omega
 have HC : Hid (∀ ww, Calls Tryz.prog 225 #[.int .u8 ((((s[i]'hi).toNat : Nat) : Int)), .bool false] ww fun e w' => e = .returned (.int .i64 (Nib.cls ((((s[i]'hi).toNat : Nat) : Int)) false)) ∧ w' = ww) := fun ww => tClass_any _ false ww
 generalize Nib.cls ((((s[i]'(by omega)).toNat : Nat) : Int)) false = X at *
 have i1 : ((i : Nat) : Int) < ((s.size : Nat) : Int) := by omega
 go_enter Tryz.func257, Tryz.ntmps257
 go_wp2_with fail
 refine (HE.out _).mono ?_
 rintro e w1 ⟨rfl, h1⟩
 obtain ⟨hc1, hf1, hz1⟩ := qb h1
 try simp at hz1
 have z1 : w.heap.size < w1.heap.size := by omega
 go_wp2_with fail
 refine (HC.out _).mono ?_
 rintro e w' ⟨rfl, rfl⟩
 go_wp2
 refine bodyPost_ret (v := .bool (X == 0)) (by simp [results, Tryz.results257, go_sem]) rfl ⟨rfl, ?_⟩
 repeat (with_reducible first | exact Below.refl _ _ | refine b_s ?_ _ | refine b_a ?_ _ | refine Below.drew ?_ | refine below_drewN ?_ _ | refine b_t ?_ h1)
theorem oBlanks_ex (s : ByteArray) (p : Int) (i j : Nat) (wh : Bool) (hij : i ≤ j) (hj : j ≤ s.size) :
  ∃ B : Bool, ∀ ww, qC 257 #[.agg #[.string s, .int .i64 p, .bool wh], .agg #[.int .i64 (i), .int .i64 (j)]] ww (.bool B) := by
 by_cases h : i = j
 ·subst h
  exact ⟨false, fun ww => oBlanks_none s p i wh ww⟩
 ·exact ⟨_, fun ww => oBlanks_some s p i j wh ww qo hj⟩
theorem qTi {w : World} {b : Nat} {s : ByteArray} {p : Int} {v : Bool} (h : Tri w b s p v := by repeat (with_reducible first | assumption | refine Tri.other ?_ (by first | omega | (simp <;> omega)) _ | refine Tri.alloc ?_ _ | refine Tri.drewN ?_ _ | refine Tri.drew ?_ | refine Tri.below ?_ (by with_reducible assumption))) : Tri w b s p v := h
theorem qTe {w : World} {b : Nat} {s p : Int} {v : Bool} (h : Tre w b s p v := by repeat (with_reducible first | assumption | refine Tre.other ?_ (by first | omega | (simp <;> omega)) _ | refine Tre.alloc ?_ _ | refine Tre.drewN ?_ _ | refine Tre.drew ?_ | refine Tre.below ?_ (by with_reducible assumption))) : Tre w b s p v := h
theorem tJoin_nat (a b c d : Nat) (w : World) :
  qC 196 #[.agg #[.int .i64 (a), .int .i64 (b)], .agg #[.int .i64 (c), .int .i64 (d)]] w (.agg #[.int .i64 (((min a c : Nat) : Int)), .int .i64 (((max b d : Nat) : Int))]) := by
 have := tJoin_any a b c d w
 rw [show min (a : Int) c = ((min a c : Nat) : Int) by omega, show max (b : Int) d = ((max b d : Nat) : Int) by omega] at this
 exact this
theorem tEmpty_eq (a : Int) (w : World) :
  qC 185 #[.agg #[.int .i64 (a), .int .i64 (a)]] w (.bool true) := by
 have := tIsEmpty_any a a w
 rw [show (a == a) = true by simp] at this
 exact this
theorem tEmpty_ne (a b : Nat) (w : World) (h : a ≠ b) :
  qC 185 #[.agg #[.int .i64 (a), .int .i64 (b)]] w (.bool false) := by
 have := tIsEmpty_any a b w
 rw [show ((a : Int) == b) = false by simp; omega] at this
 exact this
theorem qt11 {P : Prop} (h : P := by
  clear he
  go_enter Tryz.func259, Tryz.ntmps259
  have G : Tri (((w.alloc (.cells #[.string s, .int .i64 p, .bool wh] 213)).alloc (.cells #[.int .i64 i, .int .i64 j] 128)).alloc (.cells #[.int .i64 0, .int .i64 0] 128)) w.heap.size s p wh := Tri.alloc (Tri.alloc (Tri.new _ _ _ _ _) _) _
  have T : Two (((w.alloc (.cells #[.string s, .int .i64 p, .bool wh] 213)).alloc (.cells #[.int .i64 i, .int .i64 j] 128)).alloc (.cells #[.int .i64 0, .int .i64 0] 128)) (w.heap.size + 1) i j := Two.alloc (by have := Two.new (w.alloc (.cells #[.string s, .int .i64 p, .bool wh] 213)) i j 128; simpa using this) _
  have R : Two (((w.alloc (.cells #[.string s, .int .i64 p, .bool wh] 213)).alloc (.cells #[.int .i64 i, .int .i64 j] 128)).alloc (.cells #[.int .i64 0, .int .i64 0] 128)) (w.heap.size + 1 + 1) 0 0 := qN
  go_wp2_with fail
  refine (HR1.out _).mono ?_
  rintro r1 w1 ⟨rfl, h1⟩
  obtain ⟨hc1, hf1, hz1⟩ := qb h1
  (try simp at hz1)
  have G1 : Tri w1 (w.heap.size) (s) (p) (wh) := qTi
  have ⟨G1_0, G1_1, G1_2, G1_z, G1_l⟩ := G1
  have T1 : Two w1 (w.heap.size + 1) (i) (j) := qTw
  have ⟨T1_0, T1_1, T1_z, T1_l⟩ := T1
  have R1 : Two w1 (w.heap.size + 1 + 1) (0) (0) := qTw
  have ⟨R1_0, R1_1, R1_z, R1_l⟩ := R1
  clear hc1 hf1
  have E : Two (w1.alloc (.cells #[.int .i64 c, .int .i64 d] 128)) w1.heap.size c d := Two.new _ _ _ _
  go_wp2_with fail
  refine (HB1.out _).mono ?_
  rintro r2 w2 ⟨rfl, h2⟩
  obtain ⟨hc2, hf2, hz2⟩ := qb h2
  (try simp at hz2)
  have G2 : Tri w2 (w.heap.size) (s) (p) (wh) := qTi
  have ⟨G2_0, G2_1, G2_2, G2_z, G2_l⟩ := G2
  have T2 : Two w2 (w.heap.size + 1) (i) (j) := qTw
  have ⟨T2_0, T2_1, T2_z, T2_l⟩ := T2
  have R2 : Two w2 (w.heap.size + 1 + 1) (0) (0) := qTw
  have ⟨R2_0, R2_1, R2_z, R2_l⟩ := R2
  have E2 : Two w2 (w1.heap.size) (c) (d) := qTw
  have ⟨E2_0, E2_1, E2_z, E2_l⟩ := E2
  clear hc2 hf2
  go_wp2_with fail
  refine (HR2.out _).mono ?_
  rintro r3 w3 ⟨rfl, h3⟩
  obtain ⟨hc3, hf3, hz3⟩ := qb h3
  (try simp at hz3)
  have G3 : Tri w3 (w.heap.size) (s) (p) (wh) := qTi
  have ⟨G3_0, G3_1, G3_2, G3_z, G3_l⟩ := G3
  have T3 : Two w3 (w.heap.size + 1) (i) (j) := qTw
  have ⟨T3_0, T3_1, T3_z, T3_l⟩ := T3
  have R3 : Two w3 (w.heap.size + 1 + 1) (0) (0) := qTw
  have ⟨R3_0, R3_1, R3_z, R3_l⟩ := R3
  clear hc3 hf3
  have E2 : Two (w3.alloc (.cells #[.int .i64 c', .int .i64 d'] 128)) w3.heap.size c' d' := Two.new _ _ _ _
  go_wp2_with fail
  refine (HB2.out _).mono ?_
  rintro r4 w4 ⟨rfl, h4⟩
  obtain ⟨hc4, hf4, hz4⟩ := qb h4
  (try simp at hz4)
  have G4 : Tri w4 (w.heap.size) (s) (p) (wh) := qTi
  have ⟨G4_0, G4_1, G4_2, G4_z, G4_l⟩ := G4
  have T4 : Two w4 (w.heap.size + 1) (i) (j) := qTw
  have ⟨T4_0, T4_1, T4_z, T4_l⟩ := T4
  have R4 : Two w4 (w.heap.size + 1 + 1) (0) (0) := qTw
  have ⟨R4_0, R4_1, R4_z, R4_l⟩ := R4
  have E24 : Two w4 (w3.heap.size) (c') (d') := qTw
  have ⟨E24_0, E24_1, E24_z, E24_l⟩ := E24
  clear hc4 hf4
  go_wp2_with fail
  refine (HJ.out _).mono ?_
  rintro r5 w5 ⟨rfl, h5⟩
  obtain ⟨hc5, hf5, hz5⟩ := qb h5
  (try simp at hz5)
  have G5 : Tri w5 (w.heap.size) (s) (p) (wh) := qTi
  have ⟨G5_0, G5_1, G5_2, G5_z, G5_l⟩ := G5
  have T5 : Two w5 (w.heap.size + 1) (i) (j) := qTw
  have ⟨T5_0, T5_1, T5_z, T5_l⟩ := T5
  have R5 : Two w5 (w.heap.size + 1 + 1) (0) (0) := qTw
  have ⟨R5_0, R5_1, R5_z, R5_l⟩ := R5
  have E25 : Two w5 (w3.heap.size) (c') (d') := qTw
  have ⟨E25_0, E25_1, E25_z, E25_l⟩ := E25
  clear hc5 hf5
  go_wp2
  exact qV (.agg #[.int .i64 (U), .int .i64 (V)]) (by simp [results, Tryz.results259, go_sem, R5_0, R5_1, R5_z, R5_l, T5_0, T5_1]) rfl
 ) : P := h
theorem qt13 {P : Prop} (h : P := by
  clear he
  go_enter Tryz.func259, Tryz.ntmps259
  have G : Tri (((w.alloc (.cells #[.string s, .int .i64 p, .bool wh] 213)).alloc (.cells #[.int .i64 i, .int .i64 j] 128)).alloc (.cells #[.int .i64 0, .int .i64 0] 128)) w.heap.size s p wh := Tri.alloc (Tri.alloc (Tri.new _ _ _ _ _) _) _
  have T : Two (((w.alloc (.cells #[.string s, .int .i64 p, .bool wh] 213)).alloc (.cells #[.int .i64 i, .int .i64 j] 128)).alloc (.cells #[.int .i64 0, .int .i64 0] 128)) (w.heap.size + 1) i j := Two.alloc (by have := Two.new (w.alloc (.cells #[.string s, .int .i64 p, .bool wh] 213)) i j 128; simpa using this) _
  have R : Two (((w.alloc (.cells #[.string s, .int .i64 p, .bool wh] 213)).alloc (.cells #[.int .i64 i, .int .i64 j] 128)).alloc (.cells #[.int .i64 0, .int .i64 0] 128)) (w.heap.size + 1 + 1) 0 0 := qN
  go_wp2_with fail
  refine (HR1.out _).mono ?_
  rintro r1 w1 ⟨rfl, h1⟩
  obtain ⟨hc1, hf1, hz1⟩ := qb h1
  (try simp at hz1)
  have G1 : Tri w1 (w.heap.size) (s) (p) (wh) := qTi
  have ⟨G1_0, G1_1, G1_2, G1_z, G1_l⟩ := G1
  have T1 : Two w1 (w.heap.size + 1) (i) (j) := qTw
  have ⟨T1_0, T1_1, T1_z, T1_l⟩ := T1
  have R1 : Two w1 (w.heap.size + 1 + 1) (0) (0) := qTw
  have ⟨R1_0, R1_1, R1_z, R1_l⟩ := R1
  clear hc1 hf1
  have E : Two (w1.alloc (.cells #[.int .i64 c, .int .i64 d] 128)) w1.heap.size c d := Two.new _ _ _ _
  go_wp2_with fail
  refine (HB1.out _).mono ?_
  rintro r2 w2 ⟨rfl, h2⟩
  obtain ⟨hc2, hf2, hz2⟩ := qb h2
  (try simp at hz2)
  have G2 : Tri w2 (w.heap.size) (s) (p) (wh) := qTi
  have ⟨G2_0, G2_1, G2_2, G2_z, G2_l⟩ := G2
  have T2 : Two w2 (w.heap.size + 1) (i) (j) := qTw
  have ⟨T2_0, T2_1, T2_z, T2_l⟩ := T2
  have R2 : Two w2 (w.heap.size + 1 + 1) (0) (0) := qTw
  have ⟨R2_0, R2_1, R2_z, R2_l⟩ := R2
  have E2 : Two w2 (w1.heap.size) (c) (d) := qTw
  have ⟨E2_0, E2_1, E2_z, E2_l⟩ := E2
  clear hc2 hf2
  go_wp2_with fail
  refine (HR2.out _).mono ?_
  rintro r3 w3 ⟨rfl, h3⟩
  obtain ⟨hc3, hf3, hz3⟩ := qb h3
  (try simp at hz3)
  have G3 : Tri w3 (w.heap.size) (s) (p) (wh) := qTi
  have ⟨G3_0, G3_1, G3_2, G3_z, G3_l⟩ := G3
  have T3 : Two w3 (w.heap.size + 1) (i) (j) := qTw
  have ⟨T3_0, T3_1, T3_z, T3_l⟩ := T3
  have R3 : Two w3 (w.heap.size + 1 + 1) (0) (0) := qTw
  have ⟨R3_0, R3_1, R3_z, R3_l⟩ := R3
  clear hc3 hf3
  have E2 : Two (w3.alloc (.cells #[.int .i64 c', .int .i64 d'] 128)) w3.heap.size c' d' := Two.new _ _ _ _
  go_wp2_with fail
  refine (HB2.out _).mono ?_
  rintro r4 w4 ⟨rfl, h4⟩
  obtain ⟨hc4, hf4, hz4⟩ := qb h4
  (try simp at hz4)
  have G4 : Tri w4 (w.heap.size) (s) (p) (wh) := qTi
  have ⟨G4_0, G4_1, G4_2, G4_z, G4_l⟩ := G4
  have T4 : Two w4 (w.heap.size + 1) (i) (j) := qTw
  have ⟨T4_0, T4_1, T4_z, T4_l⟩ := T4
  have R4 : Two w4 (w.heap.size + 1 + 1) (0) (0) := qTw
  have ⟨R4_0, R4_1, R4_z, R4_l⟩ := R4
  have E24 : Two w4 (w3.heap.size) (c') (d') := qTw
  have ⟨E24_0, E24_1, E24_z, E24_l⟩ := E24
  clear hc4 hf4
  go_wp2
  exact qV (.agg #[.int .i64 (i), .int .i64 (j)]) (by simp [results, Tryz.results259, go_sem, R4_0, R4_1, R4_z, R4_l, T4_0, T4_1]) rfl
 ) : P := h
theorem oWordB (s : ByteArray) (p : Int) (i j : Nat) (wh g : Bool) (hs : s.size ≤ 1000) (hij : i ≤ j) (hj : j ≤ s.size) :
  ∃ a b : Nat, a ≤ b ∧ b ≤ s.size ∧ ∀ ww, qC 259 #[.agg #[.string s, .int .i64 p, .bool wh], .agg #[.int .i64 (i), .int .i64 (j)], .bool g] ww (.agg #[.int .i64 (a), .int .i64 (b)]) := by
 obtain ⟨c, d, c1, c2, c3, HR1⟩ := tRun_ex s j g hs hj
 obtain ⟨c', d', c1', c2', c3', HR2⟩ := tRun_ex s (i - 1) g hs qo
 obtain ⟨B1, HB1⟩ := oBlanks_ex s p c d wh qo c3
 obtain ⟨B2, HB2⟩ := oBlanks_ex s p c' d' wh qo c3'
 have hwr : IntKind.i64.wrap ((i : Int) - 1) = (i : Int) - 1 := by rw [IntKind.wrap_i64]; omega
 have HR1 : qH 256 #[.string s, .int .i64 j, .bool g] (.agg #[.int .i64 (c), .int .i64 (d)]) := HR1
 cases B1 with
 | true =>
  have HB1 : qH 257 #[.agg #[.string s, .int .i64 p, .bool wh], .agg #[.int .i64 (c), .int .i64 (d)]] (.bool true) := HB1
  have HJ : qH 196 #[.agg #[.int .i64 (i), .int .i64 (j)], .agg #[.int .i64 (c), .int .i64 (d)]] (.agg #[.int .i64 (((min i c : Nat) : Int)), .int .i64 (((max j d : Nat) : Int))]) := fun ww => tJoin_nat i j c d ww
  refine ⟨min i c, max j d, by omega, by omega, fun w => ?_⟩
  generalize ((min i c : Nat) : Int) = U at *
  generalize ((max j d : Nat) : Int) = V at *
  clear HR2 HB2 c1 c2 c3 c1' c2' c3'
  go_enter Tryz.func259, Tryz.ntmps259
  have G : Tri (((w.alloc (.cells #[.string s, .int .i64 p, .bool wh] 213)).alloc (.cells #[.int .i64 i, .int .i64 j] 128)).alloc (.cells #[.int .i64 0, .int .i64 0] 128)) w.heap.size s p wh := Tri.alloc (Tri.alloc (Tri.new _ _ _ _ _) _) _
  have T : Two (((w.alloc (.cells #[.string s, .int .i64 p, .bool wh] 213)).alloc (.cells #[.int .i64 i, .int .i64 j] 128)).alloc (.cells #[.int .i64 0, .int .i64 0] 128)) (w.heap.size + 1) i j := Two.alloc (by have := Two.new (w.alloc (.cells #[.string s, .int .i64 p, .bool wh] 213)) i j 128; simpa using this) _
  have R : Two (((w.alloc (.cells #[.string s, .int .i64 p, .bool wh] 213)).alloc (.cells #[.int .i64 i, .int .i64 j] 128)).alloc (.cells #[.int .i64 0, .int .i64 0] 128)) (w.heap.size + 1 + 1) 0 0 := qN
  go_wp2_with fail
  refine (HR1.out _).mono ?_
  rintro r1 w1 ⟨rfl, h1⟩
  obtain ⟨hc1, hf1, hz1⟩ := qb h1
  (try simp at hz1)
  have G1 : Tri w1 (w.heap.size) (s) (p) (wh) := qTi
  have ⟨G1_0, G1_1, G1_2, G1_z, G1_l⟩ := G1
  have T1 : Two w1 (w.heap.size + 1) (i) (j) := qTw
  have ⟨T1_0, T1_1, T1_z, T1_l⟩ := T1
  have R1 : Two w1 (w.heap.size + 1 + 1) (0) (0) := qTw
  have ⟨R1_0, R1_1, R1_z, R1_l⟩ := R1
  clear hc1 hf1
  have E : Two (w1.alloc (.cells #[.int .i64 c, .int .i64 d] 128)) w1.heap.size c d := Two.new _ _ _ _
  go_wp2_with fail
  refine (HB1.out _).mono ?_
  rintro r2 w2 ⟨rfl, h2⟩
  obtain ⟨hc2, hf2, hz2⟩ := qb h2
  (try simp at hz2)
  have G2 : Tri w2 (w.heap.size) (s) (p) (wh) := qTi
  have ⟨G2_0, G2_1, G2_2, G2_z, G2_l⟩ := G2
  have T2 : Two w2 (w.heap.size + 1) (i) (j) := qTw
  have ⟨T2_0, T2_1, T2_z, T2_l⟩ := T2
  have R2 : Two w2 (w.heap.size + 1 + 1) (0) (0) := qTw
  have ⟨R2_0, R2_1, R2_z, R2_l⟩ := R2
  have E2 : Two w2 (w1.heap.size) (c) (d) := qTw
  have ⟨E2_0, E2_1, E2_z, E2_l⟩ := E2
  clear hc2 hf2
  go_wp2_with fail
  refine (HJ.out _).mono ?_
  rintro r3 w3 ⟨rfl, h3⟩
  obtain ⟨hc3, hf3, hz3⟩ := qb h3
  (try simp at hz3)
  have G3 : Tri w3 (w.heap.size) (s) (p) (wh) := qTi
  have ⟨G3_0, G3_1, G3_2, G3_z, G3_l⟩ := G3
  have T3 : Two w3 (w.heap.size + 1) (i) (j) := qTw
  have ⟨T3_0, T3_1, T3_z, T3_l⟩ := T3
  have R3 : Two w3 (w.heap.size + 1 + 1) (0) (0) := qTw
  have ⟨R3_0, R3_1, R3_z, R3_l⟩ := R3
  have E3 : Two w3 (w1.heap.size) (c) (d) := qTw
  have ⟨E3_0, E3_1, E3_z, E3_l⟩ := E3
  clear hc3 hf3
  go_wp2
  exact qV (.agg #[.int .i64 (U), .int .i64 (V)]) (by simp [results, Tryz.results259, go_sem, R3_0, R3_1, R3_z, R3_l, T3_0, T3_1]) rfl
 | false =>
  have HB1 : qH 257 #[.agg #[.string s, .int .i64 p, .bool wh], .agg #[.int .i64 (c), .int .i64 (d)]] (.bool false) := HB1
  have hcase : (0 < i ∧ (((i - 1 : Nat)) : Int) = (i : Int) - 1 ∧ ¬ (i : Int) - 1 < 0) ∨ (((i - 1 : Nat) : Int) = 0 ∧ (i : Int) - 1 < 0) := by omega
  have hx0 : i = 0 → True := fun _ => trivial
  cases B2 with
  | true =>
   have HB2 : qH 257 #[.agg #[.string s, .int .i64 p, .bool wh], .agg #[.int .i64 (c'), .int .i64 (d')]] (.bool true) := HB2
   have HJ : qH 196 #[.agg #[.int .i64 (i), .int .i64 (j)], .agg #[.int .i64 (c'), .int .i64 (d')]] (.agg #[.int .i64 (((min i c' : Nat) : Int)), .int .i64 (((max j d' : Nat) : Int))]) := fun ww => tJoin_nat i j c' d' ww
   refine ⟨min i c', max j d', by omega, by omega, fun w => ?_⟩
   generalize ((min i c' : Nat) : Int) = U at *
   generalize ((max j d' : Nat) : Int) = V at *
   clear c1 c2 c3 c1' c2' c3' hij hx0
   rcases hcase with ⟨hi, he, hne⟩ | ⟨he, hne⟩
   ·have HR2 : Hid (∀ ww, qC 256 #[.string s, .int .i64 ((i : Int) - 1), .bool g] ww (.agg #[.int .i64 (c'), .int .i64 (d')])) := by
     rw [← he]; exact HR2
    exact qt11
   ·have HR2 : Hid (∀ ww, qC 256 #[.string s, .int .i64 0, .bool g] ww (.agg #[.int .i64 (c'), .int .i64 (d')])) := by
     rw [he] at HR2; exact HR2
    exact qt11
  | false =>
   have HB2 : qH 257 #[.agg #[.string s, .int .i64 p, .bool wh], .agg #[.int .i64 (c'), .int .i64 (d')]] (.bool false) := HB2
   refine ⟨i, j, by omega, by omega, fun w => ?_⟩
   clear c1 c2 c3 c1' c2' c3' hij hx0
   rcases hcase with ⟨hi, he, hne⟩ | ⟨he, hne⟩
   ·have HR2 : Hid (∀ ww, qC 256 #[.string s, .int .i64 ((i : Int) - 1), .bool g] ww (.agg #[.int .i64 (c'), .int .i64 (d')])) := by
     rw [← he]; exact HR2
    exact qt13
   ·have HR2 : Hid (∀ ww, qC 256 #[.string s, .int .i64 0, .bool g] ww (.agg #[.int .i64 (c'), .int .i64 (d')])) := by
     rw [he] at HR2; exact HR2
    exact qt13
theorem oBlanksW (s : ByteArray) (p : Int) (i j : Nat) (wh g : Bool) (hs : s.size ≤ 1000) (hij : i ≤ j) (hj : j ≤ s.size) :
  ∃ (a b : Nat) (is : Bool), a ≤ b ∧ b ≤ s.size ∧ ∀ ww, qC 258 #[.agg #[.string s, .int .i64 p, .bool wh], .agg #[.int .i64 (i), .int .i64 (j)], .bool g] ww (.tuple #[.agg #[.int .i64 a, .int .i64 b, .bool false], .bool is]) := by
 obtain ⟨c, d, c1, c2, c3, HR1⟩ := tRun_ex s j g hs hj
 have HR1 : qH 256 #[.string s, .int .i64 j, .bool g] (.agg #[.int .i64 (c), .int .i64 (d)]) := HR1
 by_cases hcd : c = d
 ·subst hcd
  have HE : qH 185 #[.agg #[.int .i64 (c), .int .i64 (c)]] (.bool true) := fun ww => tEmpty_eq c ww
  refine ⟨0, 0, false, Nat.le_refl _, Nat.zero_le _, fun w => ?_⟩
  go_enter Tryz.func258, Tryz.ntmps258
  have G : Tri (((w.alloc (.cells #[.string s, .int .i64 p, .bool wh] 213)).alloc (.cells #[.int .i64 i, .int .i64 j] 128)).alloc (.cells #[.int .i64 0, .int .i64 0, .bool false] 186)) w.heap.size s p wh := Tri.alloc (Tri.alloc (Tri.new _ _ _ _ _) _) _
  have T : Two (((w.alloc (.cells #[.string s, .int .i64 p, .bool wh] 213)).alloc (.cells #[.int .i64 i, .int .i64 j] 128)).alloc (.cells #[.int .i64 0, .int .i64 0, .bool false] 186)) (w.heap.size + 1) i j := Two.alloc (by have := Two.new (w.alloc (.cells #[.string s, .int .i64 p, .bool wh] 213)) i j 128; simpa using this) _
  have Q : Tre (((w.alloc (.cells #[.string s, .int .i64 p, .bool wh] 213)).alloc (.cells #[.int .i64 i, .int .i64 j] 128)).alloc (.cells #[.int .i64 0, .int .i64 0, .bool false] 186)) (w.heap.size + 1 + 1) 0 0 false := by have := Tre.new ((w.alloc (.cells #[.string s, .int .i64 p, .bool wh] 213)).alloc (.cells #[.int .i64 i, .int .i64 j] 128)) 0 0 false 186; simpa using this
  go_wp2_with fail
  refine (HR1.out _).mono ?_
  rintro r1 w1 ⟨rfl, h1⟩
  obtain ⟨hc1, hf1, hz1⟩ := qb h1
  (try simp at hz1)
  have G1 : Tri w1 (w.heap.size) (s) (p) (wh) := qTi
  have ⟨G1_0, G1_1, G1_2, G1_z, G1_l⟩ := G1
  have T1 : Two w1 (w.heap.size + 1) (i) (j) := qTw
  have ⟨T1_0, T1_1, T1_z, T1_l⟩ := T1
  have Q1 : Tre w1 (w.heap.size + 1 + 1) (0) (0) (false) := qTe
  have ⟨Q1_0, Q1_1, Q1_2, Q1_z, Q1_l⟩ := Q1
  clear hc1 hf1
  have E : Two (w1.alloc (.cells #[.int .i64 c, .int .i64 c] 128)) w1.heap.size c c := Two.new _ _ _ _
  go_wp2_with fail
  refine (HE.out _).mono ?_
  rintro r2 w2 ⟨rfl, h2⟩
  obtain ⟨hc2, hf2, hz2⟩ := qb h2
  (try simp at hz2)
  have G2 : Tri w2 (w.heap.size) (s) (p) (wh) := qTi
  have ⟨G2_0, G2_1, G2_2, G2_z, G2_l⟩ := G2
  have T2 : Two w2 (w.heap.size + 1) (i) (j) := qTw
  have ⟨T2_0, T2_1, T2_z, T2_l⟩ := T2
  have Q2 : Tre w2 (w.heap.size + 1 + 1) (0) (0) (false) := qTe
  have ⟨Q2_0, Q2_1, Q2_2, Q2_z, Q2_l⟩ := Q2
  have E2 : Two w2 (w1.heap.size) (c) (c) := qTw
  have ⟨E2_0, E2_1, E2_z, E2_l⟩ := E2
  clear hc2 hf2
  go_wp2
  exact qV (.tuple #[.agg #[.int .i64 0, .int .i64 0, .bool false], .bool false]) (by simp [results, Tryz.results258, go_sem, Q2_0, Q2_1, Q2_2, Q2_z, Q2_l]) rfl
 ·have HE : qH 185 #[.agg #[.int .i64 (c), .int .i64 (d)]] (.bool false) := fun ww => tEmpty_ne c d ww hcd
  have HJ : qH 196 #[.agg #[.int .i64 (i), .int .i64 (j)], .agg #[.int .i64 (c), .int .i64 (d)]] (.agg #[.int .i64 (((min i c : Nat) : Int)), .int .i64 (((max j d : Nat) : Int))]) := fun ww => tJoin_nat i j c d ww
  refine ⟨min i c, max j d, true, by omega, by omega, fun w => ?_⟩
  generalize ((min i c : Nat) : Int) = U at *
  generalize ((max j d : Nat) : Int) = V at *
  go_enter Tryz.func258, Tryz.ntmps258
  have G : Tri (((w.alloc (.cells #[.string s, .int .i64 p, .bool wh] 213)).alloc (.cells #[.int .i64 i, .int .i64 j] 128)).alloc (.cells #[.int .i64 0, .int .i64 0, .bool false] 186)) w.heap.size s p wh := Tri.alloc (Tri.alloc (Tri.new _ _ _ _ _) _) _
  have T : Two (((w.alloc (.cells #[.string s, .int .i64 p, .bool wh] 213)).alloc (.cells #[.int .i64 i, .int .i64 j] 128)).alloc (.cells #[.int .i64 0, .int .i64 0, .bool false] 186)) (w.heap.size + 1) i j := Two.alloc (by have := Two.new (w.alloc (.cells #[.string s, .int .i64 p, .bool wh] 213)) i j 128; simpa using this) _
  have Q : Tre (((w.alloc (.cells #[.string s, .int .i64 p, .bool wh] 213)).alloc (.cells #[.int .i64 i, .int .i64 j] 128)).alloc (.cells #[.int .i64 0, .int .i64 0, .bool false] 186)) (w.heap.size + 1 + 1) 0 0 false := by have := Tre.new ((w.alloc (.cells #[.string s, .int .i64 p, .bool wh] 213)).alloc (.cells #[.int .i64 i, .int .i64 j] 128)) 0 0 false 186; simpa using this
  go_wp2_with fail
  refine (HR1.out _).mono ?_
  rintro r1 w1 ⟨rfl, h1⟩
  obtain ⟨hc1, hf1, hz1⟩ := qb h1
  (try simp at hz1)
  have G1 : Tri w1 (w.heap.size) (s) (p) (wh) := qTi
  have ⟨G1_0, G1_1, G1_2, G1_z, G1_l⟩ := G1
  have T1 : Two w1 (w.heap.size + 1) (i) (j) := qTw
  have ⟨T1_0, T1_1, T1_z, T1_l⟩ := T1
  have Q1 : Tre w1 (w.heap.size + 1 + 1) (0) (0) (false) := qTe
  have ⟨Q1_0, Q1_1, Q1_2, Q1_z, Q1_l⟩ := Q1
  clear hc1 hf1
  have E : Two (w1.alloc (.cells #[.int .i64 c, .int .i64 d] 128)) w1.heap.size c d := Two.new _ _ _ _
  go_wp2_with fail
  refine (HE.out _).mono ?_
  rintro r2 w2 ⟨rfl, h2⟩
  obtain ⟨hc2, hf2, hz2⟩ := qb h2
  (try simp at hz2)
  have G2 : Tri w2 (w.heap.size) (s) (p) (wh) := qTi
  have ⟨G2_0, G2_1, G2_2, G2_z, G2_l⟩ := G2
  have T2 : Two w2 (w.heap.size + 1) (i) (j) := qTw
  have ⟨T2_0, T2_1, T2_z, T2_l⟩ := T2
  have Q2 : Tre w2 (w.heap.size + 1 + 1) (0) (0) (false) := qTe
  have ⟨Q2_0, Q2_1, Q2_2, Q2_z, Q2_l⟩ := Q2
  have E2 : Two w2 (w1.heap.size) (c) (d) := qTw
  have ⟨E2_0, E2_1, E2_z, E2_l⟩ := E2
  clear hc2 hf2
  go_wp2_with fail
  refine (HJ.out _).mono ?_
  rintro r3 w3 ⟨rfl, h3⟩
  obtain ⟨hc3, hf3, hz3⟩ := qb h3
  (try simp at hz3)
  have G3 : Tri w3 (w.heap.size) (s) (p) (wh) := qTi
  have ⟨G3_0, G3_1, G3_2, G3_z, G3_l⟩ := G3
  have T3 : Two w3 (w.heap.size + 1) (i) (j) := qTw
  have ⟨T3_0, T3_1, T3_z, T3_l⟩ := T3
  have Q3 : Tre w3 (w.heap.size + 1 + 1) (0) (0) (false) := qTe
  have ⟨Q3_0, Q3_1, Q3_2, Q3_z, Q3_l⟩ := Q3
  have E3 : Two w3 (w1.heap.size) (c) (d) := qTw
  have ⟨E3_0, E3_1, E3_z, E3_l⟩ := E3
  clear hc3 hf3
  go_wp2
  exact qV (.tuple #[.agg #[.int .i64 U, .int .i64 V, .bool false], .bool true]) (by simp [results, Tryz.results258, go_sem, Q3_0, Q3_1, Q3_2, Q3_z, Q3_l]) rfl
end Go.Proofs.YtlendfhehhacpaaGreat
