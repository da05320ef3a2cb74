/- A part. -/
import Derived.Test.YtlendfhehhacpaaGreatT27
set_option linter.unusedVariables false
set_option linter.unusedSimpArgs false
set_option maxRecDepth 100000
set_option maxHeartbeats 8000000
namespace Go.Proofs.YtlendfhehhacpaaGreat
open Go.RowKit Nib Tryz
def weI (z i j : Nat) : Nat := if j < z then i else i - 1
def weJ (z j : Nat) : Nat := if j < z then j + 1 else j
theorem we_le {z i j : Nat} (h : i ≤ j) (hj : j ≤ z) : weI z i j ≤ weJ z j ∧ weJ z j ≤ z := by unfold weI weJ; split <;> omega
theorem vWithEnds (s : ByteArray) (i j : Nat) (w : World) (hs : s.size ≤ 1000) (h : i ≤ j) (hj : j ≤ s.size) :
  qC 263 #[.string s, .agg #[.int .i64 (i), .int .i64 (j)]] w (.agg #[.int .i64 (weI s.size i j), .int .i64 (weJ s.size j)]) := by
 have hw1 : IntKind.i64.wrap ((j : Int) + 1) = (j : Int) + 1 := by rw [IntKind.wrap_i64]; omega
 have hw2 : IntKind.i64.wrap ((i : Int) - 1) = (i : Int) - 1 := by rw [IntKind.wrap_i64]; omega
 have HE : qH 246 #[.string s] (.int .i64 s.size) := fun ww => Calls.mono (tEnd_any s ww) (fun _ _ ⟨a, b⟩ => ⟨a, b ▸ Below.refl _ _⟩)
 unfold weI weJ
 by_cases h1 : j < s.size
 ·have i1 : ((j : Nat) : Int) < ((s.size : Nat) : Int) := by omega
  rw [if_pos h1, if_pos h1, show (((j + 1 : Nat)) : Int) = (j : Int) + 1 by omega]
  go_enter func263, ntmps263
  go_wp2_with fail
  go_region_held3 (fun ww => ww.cell? ⟨w.heap.size, 0, none⟩ = some (.int .i64 i) ∧ ww.cell? ⟨w.heap.size, 1, none⟩ = some (.int .i64 j)) (exact qK) ((go_at_call 246; refine (HE.out _).mono ?_; rintro r1 w1 ⟨rfl, h1⟩; obtain ⟨hc1, hf1, hz1⟩ := qb h1; (try simp at hz1); (try have ⟨hl1_0, hk1_0⟩ := qL w.heap.size w1.heap.size)))
  have l1 : w.heap.size < w1.heap.size := by omega
  have l2 : w.heap.size + 1 < w1.heap.size := by omega
  have r0 : w1.cell? ⟨w.heap.size + 1, 0, none⟩ = some (.int .i64 0) := (hc1 _ _ qi).trans qi
  have r1 : w1.cell? ⟨w.heap.size + 1, 1, none⟩ = some (.int .i64 0) := (hc1 _ _ qi).trans qi
  have rz : ∀ o, w1.frozen? ⟨w.heap.size + 1, o, none⟩ = false := fun o => (hf1 _ _ qi).trans qi
  have rz0 : ∀ o, w1.frozen? ⟨w.heap.size, o, none⟩ = false := fun o => (hf1 _ _ qs).trans qi
  clear hc1 hf1
  go_wp2
  exact qV (.agg #[.int .i64 (i), .int .i64 ((j : Int) + 1)]) (by simp [results, results263, go_sem, r0, r1, rz, l2, l1]) rfl
 ·have i1 : ¬ ((j : Nat) : Int) < ((s.size : Nat) : Int) := by omega
  rw [if_neg h1, if_neg h1]
  by_cases h2 : 0 < i
  ·have i2 : (0 : Int) < ((i : Nat) : Int) := by omega
   rw [show (((i - 1 : Nat)) : Int) = (i : Int) - 1 by omega]
   go_enter func263, ntmps263
   go_wp2_with fail
   go_region_held3 (fun ww => ww.cell? ⟨w.heap.size, 0, none⟩ = some (.int .i64 i) ∧ ww.cell? ⟨w.heap.size, 1, none⟩ = some (.int .i64 j)) (exact qK) ((go_at_call 246; refine (HE.out _).mono ?_; rintro r1 w1 ⟨rfl, h1⟩; obtain ⟨hc1, hf1, hz1⟩ := qb h1; (try simp at hz1); (try have ⟨hl1_0, hk1_0⟩ := qL w.heap.size w1.heap.size)))
   have l1 : w.heap.size < w1.heap.size := by omega
   have l2 : w.heap.size + 1 < w1.heap.size := by omega
   have r0 : w1.cell? ⟨w.heap.size + 1, 0, none⟩ = some (.int .i64 0) := (hc1 _ _ qi).trans qi
   have r1 : w1.cell? ⟨w.heap.size + 1, 1, none⟩ = some (.int .i64 0) := (hc1 _ _ qi).trans qi
   have rz : ∀ o, w1.frozen? ⟨w.heap.size + 1, o, none⟩ = false := fun o => (hf1 _ _ qi).trans qi
   have rz0 : ∀ o, w1.frozen? ⟨w.heap.size, o, none⟩ = false := fun o => (hf1 _ _ qs).trans qi
   clear hc1 hf1
   go_wp2
   exact qV (.agg #[.int .i64 ((i : Int) - 1), .int .i64 (j)]) (by simp [results, results263, go_sem, r0, r1, rz, l2, l1]) rfl
  ·have h3 : i = 0 := by omega
   have i2 : ¬ (0 : Int) < ((i : Nat) : Int) := by omega
   rw [show (((i - 1 : Nat)) : Int) = (i : Int) by omega]
   clear h3
   go_enter func263, ntmps263
   go_wp2_with fail
   go_region_held3 (fun ww => ww.cell? ⟨w.heap.size, 0, none⟩ = some (.int .i64 i) ∧ ww.cell? ⟨w.heap.size, 1, none⟩ = some (.int .i64 j)) (exact qK) ((go_at_call 246; refine (HE.out _).mono ?_; rintro r1 w1 ⟨rfl, h1⟩; obtain ⟨hc1, hf1, hz1⟩ := qb h1; (try simp at hz1); (try have ⟨hl1_0, hk1_0⟩ := qL w.heap.size w1.heap.size)))
   have l1 : w.heap.size < w1.heap.size := by omega
   have l2 : w.heap.size + 1 < w1.heap.size := by omega
   have r0 : w1.cell? ⟨w.heap.size + 1, 0, none⟩ = some (.int .i64 0) := (hc1 _ _ qi).trans qi
   have r1 : w1.cell? ⟨w.heap.size + 1, 1, none⟩ = some (.int .i64 0) := (hc1 _ _ qi).trans qi
   have rz : ∀ o, w1.frozen? ⟨w.heap.size + 1, o, none⟩ = false := fun o => (hf1 _ _ qi).trans qi
   have rz0 : ∀ o, w1.frozen? ⟨w.heap.size, o, none⟩ = false := fun o => (hf1 _ _ qs).trans qi
   clear hc1 hf1
   go_wp2
   exact qV (.agg #[.int .i64 (i), .int .i64 (j)]) (by simp [results, results263, go_sem, r0, r1, rz, l2, l1]) rfl
def cutS (s : ByteArray) (i j : Nat) : ByteArray := s.extract 0 i ++ s.extract j s.size
theorem cutS_size {s : ByteArray} {i j : Nat} (h : i ≤ j) (hj : j ≤ s.size) : (cutS s i j).size = s.size - (j - i) := by
 unfold cutS
 rw [ByteArray.size_append, ByteArray.size_extract, ByteArray.size_extract]
 omega
theorem tWith_cut (s : ByteArray) (i j : Nat) (w : World) (hs : s.size ≤ 1000) (h : i ≤ j) (hj : j ≤ s.size) :
  qC 192 #[.string s, .agg #[.int .i64 (i), .int .i64 (j)], .string ⟨#[]⟩] w (.string (cutS s i j)) := by
 have := tWith_any s ⟨#[]⟩ i j i j w hs qd rfl rfl h hj
 rw [show s.extract 0 i ++ (⟨#[]⟩ : ByteArray) = s.extract 0 i from ByteArray.append_empty] at this
 exact this
theorem vWithout_lines (s : ByteArray) (i j : Nat) (w : World) (hs : s.size ≤ 1000) (h : i ≤ j) (hj : j ≤ s.size) :
  qC 218 #[.string s, .agg #[.int .i64 i, .int .i64 j, .bool true]] w (.tuple #[.string (cutS s (weI s.size i j) (weJ s.size j)), .int .i64 (frs (cutS s (weI s.size i j) (weJ s.size j)) (min i (cutS s (weI s.size i j) (weJ s.size j)).size))]) := by
 obtain ⟨g1, g2⟩ := we_le h hj
 have hz := cutS_size g1 g2
 have HE : qH 263 #[.string s, .agg #[.int .i64 (i), .int .i64 (j)]] (.agg #[.int .i64 (weI s.size i j), .int .i64 (weJ s.size j)]) := fun ww => vWithEnds s i j ww hs h hj
 have HW : qH 192 #[.string s, .agg #[.int .i64 (weI s.size i j), .int .i64 (weJ s.size j)], .string ⟨#[]⟩] (.string (cutS s (weI s.size i j) (weJ s.size j))) := fun ww => tWith_cut s _ _ ww hs g1 g2
 generalize weI s.size i j = I at *
 generalize weJ s.size j = J at *
 have hz2 : (cutS s I J).size ≤ 1000 := by omega
 generalize cutS s I J = X at *
 have HEnd : qH 246 #[.string X] (.int .i64 X.size) := fun ww => Calls.mono (tEnd_any X ww) (fun _ _ ⟨a, b⟩ => ⟨a, b ▸ Below.refl _ _⟩)
 have hm : min (i : Int) (X.size : Int) = ((min i X.size : Nat) : Int) := by omega
 have hk : min i X.size ≤ X.size := by omega
 generalize hM : min i X.size = M at *
 have HL : qH 195 #[.string X, .int .i64 M] (.agg #[.int .i64 (beg X M), .int .i64 (fin X M)]) := fun ww => tLine_any X M M ww hz2 rfl hk
 have HF : qH 243 #[.string X, .agg #[.int .i64 (beg X M), .int .i64 (fin X M)]] (.int .i64 (frs X M)) := fun ww => tFirst_any X _ _ M ww hz2 hk rfl rfl
 generalize frs X M = F at *
 generalize beg X M = LB at *
 generalize fin X M = LE at *
 clear hz g1 g2
 by_cases hle : X.size < i
 ·have hi : ((X.size : Nat) : Int) < ((i : Nat) : Int) := by omega
  have e : M = X.size := by omega
  subst e
  clear hM hm hk
  go_enter func218, ntmps218
  go_wp2_with fail
  refine (HE.out _).mono ?_
  rintro e w1 ⟨rfl, h1⟩
  obtain ⟨hc1, hf1, hz1⟩ := qb h1
  try simp at hz1
  have a0 : w1.cell? ⟨w.heap.size, 0, none⟩ = some (.int .i64 i) := (hc1 _ _ qi).trans qi
  have al : w.heap.size < w1.heap.size := by omega
  go_wp2_with fail
  refine (HW.out _).mono ?_
  rintro e w2 ⟨rfl, h2⟩
  obtain ⟨hc2, hf2, hz2⟩ := qb h2
  try simp at hz2
  have b0 : w2.cell? ⟨w.heap.size, 0, none⟩ = some (.int .i64 i) := (hc2 _ _ qO).trans a0
  have bl : w.heap.size < w2.heap.size := by omega
  clear hc1 hf1 hc2 hf2 a0
  go_wp2_with fail
  go_region_held3 (fun ww => ww.cell? ⟨w.heap.size, 0, none⟩ = some (.int .i64 i)) ((first | (go_simp; done) | ((repeat exact qM); done))) (first | (go_at_call 246; with_reducible refine Calls.mono (HEnd.out (w2.alloc (.cells #[.int .i64 0, .int .i64 0] 128)).drew) ?_; rintro r5 w5 ⟨rfl, h5⟩; have hz5 := h5.size; (try simp at hz5); (try have ⟨hl5_0, hk5_0⟩ := qL w.heap.size w5.heap.size); have nv0_0 : w5.cell? ⟨w2.heap.size, 0, none⟩ = some (.int .i64 0) := ((bcell h5).1 _ _ qO).trans qi; have nv0_1 : w5.cell? ⟨w2.heap.size, 1, none⟩ = some (.int .i64 0) := ((bcell h5).1 _ _ qO).trans qi; have nz0 : ∀ o, w5.frozen? ⟨w2.heap.size, o, none⟩ = false := fun o => ((bcell h5).2 _ o qO).trans qi; have nl0 : w2.heap.size < w5.heap.size := qo) | (go_at_call 246; with_reducible refine Calls.mono (HEnd.out w2.drew) ?_; rintro r5 w5 ⟨rfl, h5⟩; have hz5 := h5.size; (try simp at hz5); (try have ⟨hl5_0, hk5_0⟩ := qL w.heap.size w5.heap.size)) | (go_at_call 195; with_reducible refine Calls.mono (HL.out (w5.alloc (.cells #[.int .i64 0, .int .i64 0] 128))) ?_; rintro r3 w3 ⟨rfl, h3⟩; have hz3 := h3.size; (try simp at hz3); (try have ⟨hl3_0, hk3_0⟩ := qL w.heap.size w3.heap.size); (try have nv0_0 := memLater h3 nv0_0); (try have nv0_1 := memLater h3 nv0_1); (try have nz0 : ∀ o, w3.frozen? ⟨w2.heap.size, o, none⟩ = false := fun o => ((bcell h3).2 _ o qO).trans (nz0 o)); (try have nl0 : w2.heap.size < w3.heap.size := qo); have nv1_0 : w3.cell? ⟨w5.heap.size, 0, none⟩ = some (.int .i64 0) := ((bcell h3).1 _ _ qO).trans qi; have nv1_1 : w3.cell? ⟨w5.heap.size, 1, none⟩ = some (.int .i64 0) := ((bcell h3).1 _ _ qO).trans qi; have nz1 : ∀ o, w3.frozen? ⟨w5.heap.size, o, none⟩ = false := fun o => ((bcell h3).2 _ o qO).trans qi; have nl1 : w5.heap.size < w3.heap.size := qo) | (go_at_call 195; with_reducible refine Calls.mono (HL.out w5) ?_; rintro r3 w3 ⟨rfl, h3⟩; have hz3 := h3.size; (try simp at hz3); (try have ⟨hl3_0, hk3_0⟩ := qL w.heap.size w3.heap.size); (try have nv0_0 := memLater h3 nv0_0); (try have nv0_1 := memLater h3 nv0_1); (try have nz0 : ∀ o, w3.frozen? ⟨w2.heap.size, o, none⟩ = false := fun o => ((bcell h3).2 _ o qO).trans (nz0 o)); (try have nl0 : w2.heap.size < w3.heap.size := qo)))
  all_goals
   go_wp2_with fail
   refine (HF.out _).mono ?_
   rintro e w4 ⟨rfl, h4⟩
   obtain ⟨hc4, hf4, hz4⟩ := qb h4
   try simp at hz4
   go_wp2
   exact qV (.tuple #[.string X, .int .i64 F]) (by simp [results, results218, go_sem]) rfl
 ·have hi : ¬ ((X.size : Nat) : Int) < ((i : Nat) : Int) := by omega
  have e : M = i := by omega
  subst e
  clear hM hm hk
  go_enter func218, ntmps218
  go_wp2_with fail
  refine (HE.out _).mono ?_
  rintro e w1 ⟨rfl, h1⟩
  obtain ⟨hc1, hf1, hz1⟩ := qb h1
  try simp at hz1
  have a0 : w1.cell? ⟨w.heap.size, 0, none⟩ = some (.int .i64 M) := (hc1 _ _ qi).trans qi
  have al : w.heap.size < w1.heap.size := by omega
  go_wp2_with fail
  refine (HW.out _).mono ?_
  rintro e w2 ⟨rfl, h2⟩
  obtain ⟨hc2, hf2, hz2⟩ := qb h2
  try simp at hz2
  have b0 : w2.cell? ⟨w.heap.size, 0, none⟩ = some (.int .i64 M) := (hc2 _ _ qO).trans a0
  have bl : w.heap.size < w2.heap.size := by omega
  clear hc1 hf1 hc2 hf2 a0
  go_wp2_with fail
  go_region_held3 (fun ww => ww.cell? ⟨w.heap.size, 0, none⟩ = some (.int .i64 M)) ((first | (go_simp; done) | ((repeat exact qM); done))) (first | (go_at_call 246; with_reducible refine Calls.mono (HEnd.out (w2.alloc (.cells #[.int .i64 0, .int .i64 0] 128)).drew) ?_; rintro r5 w5 ⟨rfl, h5⟩; have hz5 := h5.size; (try simp at hz5); (try have ⟨hl5_0, hk5_0⟩ := qL w.heap.size w5.heap.size); have nv0_0 : w5.cell? ⟨w2.heap.size, 0, none⟩ = some (.int .i64 0) := ((bcell h5).1 _ _ qO).trans qi; have nv0_1 : w5.cell? ⟨w2.heap.size, 1, none⟩ = some (.int .i64 0) := ((bcell h5).1 _ _ qO).trans qi; have nz0 : ∀ o, w5.frozen? ⟨w2.heap.size, o, none⟩ = false := fun o => ((bcell h5).2 _ o qO).trans qi; have nl0 : w2.heap.size < w5.heap.size := qo) | (go_at_call 246; with_reducible refine Calls.mono (HEnd.out w2.drew) ?_; rintro r5 w5 ⟨rfl, h5⟩; have hz5 := h5.size; (try simp at hz5); (try have ⟨hl5_0, hk5_0⟩ := qL w.heap.size w5.heap.size)) | (go_at_call 195; with_reducible refine Calls.mono (HL.out (w5.alloc (.cells #[.int .i64 0, .int .i64 0] 128))) ?_; rintro r3 w3 ⟨rfl, h3⟩; have hz3 := h3.size; (try simp at hz3); (try have ⟨hl3_0, hk3_0⟩ := qL w.heap.size w3.heap.size); (try have nv0_0 := memLater h3 nv0_0); (try have nv0_1 := memLater h3 nv0_1); (try have nz0 : ∀ o, w3.frozen? ⟨w2.heap.size, o, none⟩ = false := fun o => ((bcell h3).2 _ o qO).trans (nz0 o)); (try have nl0 : w2.heap.size < w3.heap.size := qo); have nv1_0 : w3.cell? ⟨w5.heap.size, 0, none⟩ = some (.int .i64 0) := ((bcell h3).1 _ _ qO).trans qi; have nv1_1 : w3.cell? ⟨w5.heap.size, 1, none⟩ = some (.int .i64 0) := ((bcell h3).1 _ _ qO).trans qi; have nz1 : ∀ o, w3.frozen? ⟨w5.heap.size, o, none⟩ = false := fun o => ((bcell h3).2 _ o qO).trans qi; have nl1 : w5.heap.size < w3.heap.size := qo) | (go_at_call 195; with_reducible refine Calls.mono (HL.out w5) ?_; rintro r3 w3 ⟨rfl, h3⟩; have hz3 := h3.size; (try simp at hz3); (try have ⟨hl3_0, hk3_0⟩ := qL w.heap.size w3.heap.size); (try have nv0_0 := memLater h3 nv0_0); (try have nv0_1 := memLater h3 nv0_1); (try have nz0 : ∀ o, w3.frozen? ⟨w2.heap.size, o, none⟩ = false := fun o => ((bcell h3).2 _ o qO).trans (nz0 o)); (try have nl0 : w2.heap.size < w3.heap.size := qo)))
  all_goals
   go_wp2_with fail
   refine (HF.out _).mono ?_
   rintro e w4 ⟨rfl, h4⟩
   obtain ⟨hc4, hf4, hz4⟩ := qb h4
   try simp at hz4
   go_wp2
   exact qV (.tuple #[.string X, .int .i64 F]) (by simp [results, results218, go_sem]) rfl
theorem vDo_d (s X : ByteArray) (i j p q : Int) (l : Bool) (w : World)
  (HW : qH 218 #[.string s, .agg #[.int .i64 i, .int .i64 j, .bool l]] (.tuple #[.string X, .int .i64 q])) :
  qC 174 #[.int .u8 100, .string s, .agg #[.int .i64 i, .int .i64 j, .bool l], .int .i64 p] w (.tuple #[.string X, .int .i64 q]) := by
 go_enter func174, ntmps174
 go_wp2_with fail
 refine (HW.out _).mono ?_
 rintro e w1 ⟨rfl, h1⟩
 obtain ⟨hc1, hf1, hz1⟩ := qb h1
 try simp at hz1
 go_wp2
 exact qV (.tuple #[.string X, .int .i64 q]) (by simp [results, results174, go_sem]) rfl
theorem vDo_c (s : ByteArray) (i j : Nat) (p : Int) (l : Bool) (w : World) (hs : s.size ≤ 1000) (h : i ≤ j) (hj : j ≤ s.size) :
  qC 174 #[.int .u8 99, .string s, .agg #[.int .i64 i, .int .i64 j, .bool l], .int .i64 p] w (.tuple #[.string (cutS s i j), .int .i64 i]) := by
 have HW : qH 192 #[.string s, .agg #[.int .i64 (i), .int .i64 (j)], .string ⟨#[]⟩] (.string (cutS s i j)) := fun ww => tWith_cut s i j ww hs h hj
 generalize cutS s i j = X at *
 go_enter func174, ntmps174
 go_wp2_with fail
 go_wp2_with fail
 go_region_held3 (fun ww => ww.cell? ⟨w.heap.size, 0, none⟩ = some (.int .i64 i) ∧ ww.cell? ⟨w.heap.size, 1, none⟩ = some (.int .i64 j)) (exact qK) ((go_at_call 192; refine (HW.out _).mono ?_; rintro r1 w1 ⟨rfl, h1⟩; obtain ⟨hc1, hf1, hz1⟩ := qb h1; (try simp at hz1); (try have ⟨hl1_0, hk1_0⟩ := qL w.heap.size w1.heap.size)))
 go_wp2
 exact qV (.tuple #[.string X, .int .i64 i]) (by simp [results, results174, go_sem]) rfl
theorem iWipe_none (r d : Nat) (p : Pg) (w : World) (h : RdAt w r d p) (hp : p.pl = 0) :
  qC 308 #[.agg #[.pointer (some ⟨d, 0, none⟩)]] w (.tuple #[]) := by
 have d1 := h.dk.c1
 rw [hp] at d1
 have hld := h.dk.lt
 have l1 : d < w.heap.size + 1 := by omega
 clear h hp
 go_enter func308, ntmps308
 go_wp2
 first | go_end0 | refine bodyPost_ret (results_none rfl _ _ _) rfl ?_
 refine ⟨rfl, ?_⟩
 repeat exact qB
theorem iWipe_one (r d : Nat) (p : Pg) (k : Nat) (w : World) (h : RdAt w r d p) (hp : p.pl = k + 1) (hs : p.t.size ≤ 1000) (hk : p.pl ≤ p.t.size) :
  Calls Tryz.prog 308 #[.agg #[.pointer (some ⟨d, 0, none⟩)]] w fun e w' => e = .returned (.tuple #[]) ∧ RdAt w' r d { p with t := p.t.extract 0 k ++ p.t.extract (k + 1) p.t.size, pl := k } ∧ Upd [d] w w' := by
 have HW : qH 192 #[.string p.t, .agg #[.int .i64 (((k : Nat) : Int)), .int .i64 (((k : Int) + 1))], .string ⟨#[]⟩] (.string (p.t.extract 0 k ++ p.t.extract (k + 1) p.t.size)) := by
  intro ww
  have := tWith_any p.t ⟨#[]⟩ k ((k : Int) + 1) k (k + 1) ww hs qd rfl qo qo qo
  rw [show p.t.extract 0 k ++ (⟨#[]⟩ : ByteArray) = p.t.extract 0 k from ByteArray.append_empty] at this
  exact this
 have HS : Hid (∀ ww, RdAt ww r d p → RdAt ((ww.setCell ⟨d, 0, none⟩ (.string (p.t.extract 0 k ++ p.t.extract (k + 1) p.t.size))).setCell ⟨d, 1, none⟩ (.int .i64 (k : Nat))) r d { p with t := p.t.extract 0 k ++ p.t.extract (k + 1) p.t.size, pl := k }) := fun ww hh => (hh.set_t _).set_pl k
 have H := h
 have d0 := h.dk.c0
 have d1 := h.dk.c1
 rw [hp] at d1
 have fz := h.dk.fz
 have hld := h.dk.lt
 have l1 : d < w.heap.size + 1 := by omega
 have hn : ¬ ((k : Int) + 1) = 0 := by omega
 generalize hP2 : ({ p with t := p.t.extract 0 k ++ p.t.extract (k + 1) p.t.size, pl := k } : Pg) = p2 at *
 generalize p.t.extract 0 k ++ p.t.extract (k + 1) p.t.size = X at *
 clear h hP2
 have hwr : IntKind.i64.wrap (((k : Nat) : Int) + 1 - 1) = (k : Int) := by rw [IntKind.wrap_i64]; omega
 go_enter func308, ntmps308
 go_wp2_with fail
 have g0 : (w.alloc (.cells #[.pointer (some ⟨d, 0, none⟩)] 80)).cell? ⟨w.heap.size, 0, none⟩ = some (.pointer (some ⟨d, 0, none⟩)) := by simp
 have d1' : (w.alloc (.cells #[.pointer (some ⟨d, 0, none⟩)] 80)).cell? ⟨d, 1, none⟩ = some (.int .i64 ((k : Int) + 1)) := memLater ((Below.refl _ _).alloc (Nat.le_refl _) _) (by rw [d1]; rfl)
 have d0' : (w.alloc (.cells #[.pointer (some ⟨d, 0, none⟩)] 80)).cell? ⟨d, 0, none⟩ = some (.string p.t) := memLater ((Below.refl _ _).alloc (Nat.le_refl _) _) d0
 refine wp_region_held_drew (S := fun ww => ww.cell? ⟨w.heap.size, 0, none⟩ = some (.pointer (some ⟨d, 0, none⟩)) ∧ ww.cell? ⟨d, 1, none⟩ = some (.int .i64 ((k : Int) + 1))) qk ?_ (fun hHeld => ?_)
 ·exact ⟨memLater ((Below.refl _ _).drew) g0, memLater ((Below.refl _ _).drew) d1'⟩
 refine qT 0 ?_
 simp only [Act.put, qP]
 refine qT 1 ?_
 simp only [Act.put, qP]
 refine qT 2 ?_
 simp only [Act.put, qP]
 refine qT 3 ?_
 simp only [Act.put, qP]
 refine qT 4 ?_
 simp only [Act.put, qP]
 refine qT 5 ?_
 simp only [Act.put, qP]
 refine qT 7 ?_
 simp only [Act.put, qP]
 refine qT 8 ?_
 simp only [Act.put, qP]
 refine qT 9 ?_
 simp only [Act.put, qP]
 refine qT 10 ?_
 simp only [Act.put, qP]
 refine qT 11 ?_
 simp only [Act.put, qP]
 refine qT 12 ?_
 simp only [Act.put, qP]
 refine qT 13 ?_
 simp only [Act.put, qP]
 refine qT 14 ?_
 simp only [Act.put, qP]
 refine qT 15 ?_
 simp only [Act.put, qP]
 refine qT 16 ?_
 simp only [Act.put, qP]
 refine qT 17 ?_
 simp only [Act.put, qP]
 refine qT 18 ?_
 simp only [Act.put, qP]
 refine qR 6 fun K hK => ?_
 rw [if_pos (by rfl)]
 go_wp2_with fail
 refine hK.out _ _ ?_ (fun hHeld => ?_)
 ·exact ⟨memLater ((Below.refl _ _).drew) g0, memLater ((Below.refl _ _).drew) d1'⟩
 clear hK K
 try simp only [Act.put, qP]
 refine qR 19 fun K hK => ?_
 rw [if_pos (by rfl)]
 go_wp2_with fail
 refine (HW.out _).mono ?_
 rintro r1 w1 ⟨rfl, h1⟩
 obtain ⟨hc1, hf1, hz1⟩ := qb h1
 (try simp at hz1)
 go_wp2_with fail
 refine hK.out _ _ ?_ (fun hHeld => ?_)
 ·exact ⟨memLater h1 (memLater ((Below.refl _ _).drew) g0), memLater h1 (memLater ((Below.refl _ _).drew) d1')⟩
 clear hK K
 try simp only [Act.put, qP]
 have H1 := ((H.alloc (.cells #[.pointer (some ⟨d, 0, none⟩)] 80)).drew).below h1
 have e0 := H1.dk.c0
 have e1 := H1.dk.c1
 rw [hp] at e1
 have ez := H1.dk.fz
 have el := H1.dk.lt
 have eg := memLater h1 (memLater ((Below.refl _ _).drew) g0)
 refine qT 20 ?_
 simp only [Act.put, qP]
 refine qT 21 ?_
 simp only [Act.put, qP]
 refine qR 22 fun K hK => ?_
 rw [if_pos (by rfl)]
 go_wp2_with fail
 refine hK.out _ _ ?_ (fun hHeld => ?_)
 ·exact ⟨by go_simp, by go_simp⟩
 clear hK K
 try simp only [Act.put, qP]
 refine wpAnyH_done qk ?_ _
 have HS2 := HS.out _ H1
 go_wp2
 first | go_end0 | refine bodyPost_ret (results_none rfl _ _ _) rfl ?_
 refine ⟨rfl, ?_, ?_⟩
 ·first | exact HS2 | trace_state
 ·repeat exact qU
theorem vDo_delete (s : ByteArray) (i j : Nat) (p : Int) (w : World) (hs : s.size ≤ 1000) (h : i ≤ j) (hj : j ≤ s.size) :
  qC 174 #[.int .u8 100, .string s, .agg #[.int .i64 i, .int .i64 j, .bool false], .int .i64 p] w (.tuple #[.string (s.extract 0 i ++ s.extract j s.size), .int .i64 i]) := by
 have HW : qH 218 #[.string s, .agg #[.int .i64 i, .int .i64 j, .bool false]] (.tuple #[.string (s.extract 0 i ++ s.extract j s.size), .int .i64 i]) := fun ww => vWithout_piece s i j ww hs h hj
 generalize s.extract 0 i ++ s.extract j s.size = X at *
 go_enter func174, ntmps174
 go_wp2_with fail
 refine (HW.out _).mono ?_
 rintro e w1 ⟨rfl, h1⟩
 obtain ⟨hc1, hf1, hz1⟩ := qb h1
 try simp at hz1
 go_wp2
 refine bodyPost_ret (v := .tuple #[.string X, .int .i64 i]) (by simp [results, results174, go_sem]) rfl ⟨rfl, ?_⟩
 exact qB
def AnyOk : Prop := ∀ (s : ByteArray) (p : Nat), s.size ≤ 1000 → p ≤ s.size →
 qH 254 #[.string (s.extract p (fin s p)), .string ⟨#[40, 41, 91, 93, 123, 125]⟩] (.int .i64 (brkAt s p))
theorem bType_inv (b : Nat) (s : ByteArray) (I : Nat → World → Prop) (w : World) (h : I 0 w) (hs : s.size ≤ 17592186044416)
  (HK : ∀ k, (hk : k < s.size) → ∀ ww, I k ww → Calls Tryz.prog 38 #[.pointer (some ⟨b, 0, none⟩), .int .u8 (s[k]'hk).toNat] ww fun e w' => ∃ O : Int, e = .returned (.int .i64 O) ∧ I (k + 1) w') :
  Calls Tryz.prog 30 #[.pointer (some ⟨b, 0, none⟩), .string s] w fun e w' => ∃ n : Nat, e = .returned (.int .i64 n) ∧ n ≤ s.size ∧ I s.size w' := by
 have HK' : Hid (∀ k, (hk : k < s.size) → ∀ ww, I k ww → Calls Tryz.prog 38 #[.pointer (some ⟨b, 0, none⟩), .int .u8 (s[k]'hk).toNat] ww fun e w' => ∃ O : Int, e = .returned (.int .i64 O) ∧ I (k + 1) w') := HK
 clear HK
 go_enter func30, ntmps30
 go_wp2
 go_loopw [5, 9] (fun m i wr => ∃ k n : Nat, k ≤ s.size ∧ i = .int .i64 k ∧ m = .int .i64 n ∧ n ≤ k ∧ I k wr) (fun _ i _ => s.size - (intOf i).toNat)
 case atStart => exact ⟨0, 0, Nat.zero_le _, rfl, rfl, Nat.le_refl _, h⟩
 case round =>
  obtain ⟨k, n, hk, rfl, rfl, hnk, h1⟩ := hrel
  by_cases hlt : k < s.size
  ·have HC := HK'.out k hlt _ h1
   go_wp2_with fail
   refine Calls.mono HC ?_
   rintro e w1 ⟨O, rfl, h2⟩
   clear h1 HC
   by_cases hO : O = 4
   ·have hO' : (O == 4) = true := by simp [hO]
    clear hO
    go_wp2
    go_roundw
    case rel => exact ⟨k + 1, n + 1, by omega, by go_num, by go_num, by omega, h2⟩
    case measure => simp [intOf] <;> omega
   ·have hO' : (O == 4) = false := by simp [hO]
    clear hO
    go_wp2
    go_roundw
    case rel => exact ⟨k + 1, n, by omega, by go_num, rfl, by omega, h2⟩
    case measure => simp [intOf] <;> omega
  ·have hkn : k = s.size := by omega
   subst hkn
   go_wp2
   go_ret
   exact ⟨n, rfl, hnk, h1⟩
theorem bType_none (b : Nat) (s : ByteArray) (I : Nat → World → Prop) (w : World) (h : I 0 w) (hs : s.size ≤ 17592186044416)
  (HK : ∀ k, (hk : k < s.size) → ∀ ww, I k ww → Calls Tryz.prog 38 #[.pointer (some ⟨b, 0, none⟩), .int .u8 (s[k]'hk).toNat] ww fun e w' => ∃ O : Int, e = .returned (.int .i64 O) ∧ ¬ O = 4 ∧ I (k + 1) w') :
  Calls Tryz.prog 30 #[.pointer (some ⟨b, 0, none⟩), .string s] w fun e w' => e = .returned (.int .i64 0) ∧ I s.size w' := by
 have HK' : Hid (∀ k, (hk : k < s.size) → ∀ ww, I k ww → Calls Tryz.prog 38 #[.pointer (some ⟨b, 0, none⟩), .int .u8 (s[k]'hk).toNat] ww fun e w' => ∃ O : Int, e = .returned (.int .i64 O) ∧ ¬ O = 4 ∧ I (k + 1) w') := HK
 clear HK
 go_enter func30, ntmps30
 go_wp2
 go_loopw [5, 9] (fun m i wr => ∃ k : Nat, k ≤ s.size ∧ i = .int .i64 k ∧ m = .int .i64 0 ∧ I k wr) (fun _ i _ => s.size - (intOf i).toNat)
 case atStart => exact ⟨0, Nat.zero_le _, rfl, rfl, h⟩
 case round =>
  obtain ⟨k, hk, rfl, rfl, h1⟩ := hrel
  by_cases hlt : k < s.size
  ·have HC := HK'.out k hlt _ h1
   go_wp2_with fail
   refine Calls.mono HC ?_
   rintro e w1 ⟨O, rfl, hO, h2⟩
   clear h1 HC
   have hO' : (O == 4) = false := by simp [hO]
   clear hO
   go_wp2
   go_roundw
   case rel => exact ⟨k + 1, by omega, by go_num, rfl, h2⟩
   case measure => simp [intOf] <;> omega
  ·have hkn : k = s.size := by omega
   subst hkn
   go_wp2
   go_ret
   exact ⟨rfl, h1⟩
