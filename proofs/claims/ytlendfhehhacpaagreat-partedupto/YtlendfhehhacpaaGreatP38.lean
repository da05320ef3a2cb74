/- A part. -/
import Derived.Test.YtlendfhehhacpaaGreatP31
import Derived.Test.YtlendfhehhacpaaGreatP33
set_option linter.unusedVariables false
set_option linter.unusedSimpArgs false
set_option maxRecDepth 100000
set_option maxHeartbeats 8000000
namespace Go.Proofs.YtlendfhehhacpaaGreat
open Go.RowKit
theorem ctd_le {s : ByteArray} {p N : Nat} (hp : p ≤ s.size) : p ≤ ctd s p N ∧ ctd s p N ≤ s.size ∧ ctd s p N ≤ p + N := by
 have h1 := Nib.fin_ge s p
 have h2 := Nib.fin_le hp
 unfold ctd
 omega
theorem tEmptyI (a : Int) (w : World) :
  qC 185 #[.agg #[.int .i64 (a), .int .i64 (a)]] w (.bool true) := by
 have := tIsEmpty_any a a w
 rw [show (a == a) = true by simp] at this
 exact this
theorem tEmptyN (a b : Nat) (w : World) (h : ¬ a = b) :
  qC 185 #[.agg #[.int .i64 (a), .int .i64 (b)]] w (.bool false) := by
 have := tIsEmpty_any a b w
 rw [show ((a : Int) == b) = false by simp; omega] at this
 exact this
def wth (s b : ByteArray) (i j : Nat) : ByteArray := s.extract 0 i ++ b ++ s.extract j s.size
theorem wth_size {s b : ByteArray} {i j : Nat} (h : i ≤ j) (hj : j ≤ s.size) : (wth s b i j).size = s.size - (j - i) + b.size := by
 unfold wth
 rw [ByteArray.size_append, ByteArray.size_append, ByteArray.size_extract, ByteArray.size_extract]
 omega
theorem eReplaced (s : ByteArray) (p N : Nat) (c : UInt8) (hs : s.size ≤ 1000) (hp : p ≤ s.size) (hN : 1 ≤ N) (hN2 : N ≤ 99) :
  GivesE 164 #[.agg #[.string s, .int .i64 p, .int .i64 N], .int .u8 c.toNat] := by
 have HC : qH 191 #[.agg #[.string s, .int .i64 p, .int .i64 N]] (.agg #[.int .i64 (p), .int .i64 (ctd s p N)]) := fun ww => eCounted s p N ww hs hp hN2
 have hcl := ctd_le (N := N) hp
 have hw0 : IntKind.i64.wrap (((ctd s p N : Nat) : Int) - p) = ((ctd s p N : Nat) : Int) - p := by rw [IntKind.wrap_i64]; omega
 by_cases hlt : ctd s p N - p < N
 ·refine ⟨⟨#[]⟩, 0, false, (fun h => by cases h), fun w => ?_⟩
  have hi : ((ctd s p N : Nat) : Int) - p < (N : Int) := by omega
  generalize ctd s p N = D at *
  go_enter Tryz.func164, Tryz.ntmps164
  have G : Spo (w.alloc (.cells #[.string s, .int .i64 p, .int .i64 N] 192)) w.heap.size s p N := Spo.new _ _ _ _ _
  go_wp2_with fail
  refine (HC.out _).mono ?_
  rintro r1 w1 ⟨rfl, h1⟩
  obtain ⟨hc1, hf1, hz1⟩ := qb h1
  (try simp at hz1)
  have G1 : Spo w1 (w.heap.size) (s) (p) (N) := qSp
  have ⟨G1_0, G1_1, G1_2, G1_z, G1_l⟩ := G1
  clear hc1 hf1
  go_wp2
  go_ret3
  refine ⟨rfl, ?_⟩
  repeat exact qB
 ·have hi : ¬ ((ctd s p N : Nat) : Int) - p < (N : Int) := by omega
  have HR : qH 201 #[.string ⟨#[c]⟩, .int .i64 N] (.string (rep ⟨#[c]⟩ N)) := fun ww => sRepeat ⟨#[c]⟩ N ww (by show 1 ≤ 2000; omega) hN2
  have hrs : (rep ⟨#[c]⟩ N).size = N := by rw [rep_size]; show N * 1 = N; omega
  have HW : qH 192 #[.string s, .agg #[.int .i64 (p), .int .i64 (ctd s p N)], .string (rep ⟨#[c]⟩ N)] (.string (wth s (rep ⟨#[c]⟩ N) p (ctd s p N))) := fun ww => tWith_any s _ p (ctd s p N) p (ctd s p N) ww hs qo rfl rfl hcl.1 hcl.2.1
  obtain ⟨Q, hQ⟩ : ∃ Q : Nat, (Q : Int) = max (p : Int) (((ctd s p N : Nat) : Int) - 1) := ⟨max p (ctd s p N - 1), by omega⟩
  have HA : qH 202 #[.agg #[.int .i64 (p), .int .i64 (ctd s p N)]] (.int .i64 Q) := by
   intro ww
   rw [hQ]
   exact tLast_any _ _ ww qo
  have hcv := fun (ww : World) (n : Nat) (hh : ww.cell? ⟨n, 0, none⟩ = some (.int .u8 c.toNat)) => conv_oneB ww n c hh
  have hX := wth_size (s := s) (b := rep ⟨#[c]⟩ N) hcl.1 hcl.2.1
  refine ⟨wth s (rep ⟨#[c]⟩ N) p (ctd s p N), Q, true, fun _ => by omega, fun w => ?_⟩
  clear hQ
  generalize wth s (rep ⟨#[c]⟩ N) p (ctd s p N) = X at *
  generalize rep ⟨#[c]⟩ N = A at *
  generalize ctd s p N = D at *
  clear hX hrs hlt
  go_enter Tryz.func164, Tryz.ntmps164
  have G : Spo (w.alloc (.cells #[.string s, .int .i64 p, .int .i64 N] 192)) w.heap.size s p N := Spo.new _ _ _ _ _
  go_wp2_with fail
  refine (HC.out _).mono ?_
  rintro r1 w1 ⟨rfl, h1⟩
  obtain ⟨hc1, hf1, hz1⟩ := qb h1
  (try simp at hz1)
  have G1 : Spo w1 (w.heap.size) (s) (p) (N) := qSp
  have ⟨G1_0, G1_1, G1_2, G1_z, G1_l⟩ := G1
  clear hc1 hf1
  go_wp2_with fail
  have E : Two (w1.alloc (.cells #[.int .i64 p, .int .i64 D] 128)) w1.heap.size p D := Two.new _ _ _ _
  have G2 : Spo (w1.alloc (.cells #[.int .i64 p, .int .i64 D] 128)) w.heap.size s p N := G1.alloc _
  have U2 : Below w.heap.size w (w1.alloc (.cells #[.int .i64 p, .int .i64 D] 128)) := by
   repeat exact qB
  have lt2 : w.heap.size < (w1.alloc (.cells #[.int .i64 p, .int .i64 D] 128)).heap.size := G2.lt
  have lt3 : w1.heap.size < (w1.alloc (.cells #[.int .i64 p, .int .i64 D] 128)).heap.size := E.lt
  clear G G1
  generalize (w1.alloc (.cells #[.int .i64 p, .int .i64 D] 128)) = W at *
  have e0 := E.c0
  have e1 := E.c1
  have f0 := G2.c0
  have f1 := G2.c1
  have f2 := G2.c2
  refine wp_region_held_drew (S := fun ww => ww.cell? ⟨w.heap.size, 0, none⟩ = some (.string s) ∧ ww.cell? ⟨w.heap.size, 2, none⟩ = some (.int .i64 N) ∧ ww.cell? ⟨w1.heap.size, 0, none⟩ = some (.int .i64 p) ∧ ww.cell? ⟨w1.heap.size, 1, none⟩ = some (.int .i64 D)) qk ?_ (fun hHeld => ?_)
  ·(refine ⟨?_, ?_, ?_, ?_⟩ <;> (repeat exact qM))
  refine qT 0 ?_
  simp only [Act.put, qP]
  refine qT 1 ?_
  simp only [Act.put, qP]
  refine qT 2 ?_
  simp only [Act.put, qP]
  refine qT 3 ?_
  simp only [Act.put, qP]
  refine qT 6 ?_
  simp only [Act.put, qP]
  refine qT 7 ?_
  simp only [Act.put, qP]
  refine qT 10 ?_
  simp only [Act.put, qP]
  refine qR 4 fun K hK => ?_
  rw [if_pos (by rfl)]
  go_wp2_with fail
  refine hK.out _ _ ?_ (fun hHeld => ?_)
  ·(refine ⟨?_, ?_, ?_, ?_⟩ <;> (repeat exact qM))
  clear hK K
  try simp only [Act.put, qP]
  refine qR 5 fun K hK => ?_
  rw [if_pos (by rfl)]
  go_wp2_with fail
  refine hK.out _ _ ?_ (fun hHeld => ?_)
  ·(refine ⟨?_, ?_, ?_, ?_⟩ <;> (repeat exact qM))
  clear hK K
  try simp only [Act.put, qP]
  refine qR 8 fun K hK => ?_
  rw [if_pos (by rfl)]
  go_wp2_with fail
  refine (HR.out _).mono ?_
  rintro r2 w2 ⟨rfl, h2⟩
  obtain ⟨hc2, hf2, hz2⟩ := qb h2
  (try simp at hz2)
  go_wp2_with fail
  refine hK.out _ _ ?_ (fun hHeld => ?_)
  ·(refine ⟨?_, ?_, ?_, ?_⟩ <;> (repeat exact qM))
  clear hK K
  try simp only [Act.put, qP]
  clear hc2 hf2
  refine qR 9 fun K hK => ?_
  rw [if_pos (by rfl)]
  go_wp2_with fail
  refine (HW.out _).mono ?_
  rintro r3 w3 ⟨rfl, h3⟩
  obtain ⟨hc3, hf3, hz3⟩ := qb h3
  (try simp at hz3)
  go_wp2_with fail
  refine hK.out _ _ ?_ (fun hHeld => ?_)
  ·(refine ⟨?_, ?_, ?_, ?_⟩ <;> (repeat exact qM))
  clear hK K
  try simp only [Act.put, qP]
  clear hc3 hf3
  refine qR 11 fun K hK => ?_
  rw [if_pos (by rfl)]
  go_wp2_with fail
  refine (HA.out _).mono ?_
  rintro r4 w4 ⟨rfl, h4⟩
  obtain ⟨hc4, hf4, hz4⟩ := qb h4
  (try simp at hz4)
  go_wp2_with fail
  refine hK.out _ _ ?_ (fun hHeld => ?_)
  ·(refine ⟨?_, ?_, ?_, ?_⟩ <;> (repeat exact qM))
  clear hK K
  try simp only [Act.put, qP]
  clear hc4 hf4
  refine qT 12 ?_
  simp only [Act.put, qP]
  refine qT 13 ?_
  simp only [Act.put, qP]
  refine qT 14 ?_
  simp only [Act.put, qP]
  refine wpAnyH_done qk ?_ _
  go_wp2
  go_ret3
  refine ⟨rfl, ?_⟩
  repeat exact qB
theorem eTurned (s : ByteArray) (p N : Nat) (hs : s.size ≤ 1000) (hp : p ≤ s.size) (hN2 : N ≤ 99) :
  GivesE 157 #[.agg #[.string s, .int .i64 p, .int .i64 N]] := by
 have HC : qH 191 #[.agg #[.string s, .int .i64 p, .int .i64 N]] (.agg #[.int .i64 (p), .int .i64 (ctd s p N)]) := fun ww => eCounted s p N ww hs hp hN2
 have hcl := ctd_le (N := N) hp
 by_cases he : p = ctd s p N
 ·have HE : Hid (∀ ww, qC 185 #[.agg #[.int .i64 (p), .int .i64 (ctd s p N)]] ww (.bool true)) := by
   rw [← he]
   exact fun ww => tEmptyI p ww
  refine ⟨⟨#[]⟩, 0, false, (fun h => by cases h), fun w => ?_⟩
  generalize ctd s p N = D at *
  clear he
  go_enter Tryz.func157, Tryz.ntmps157
  have G : Spo (w.alloc (.cells #[.string s, .int .i64 p, .int .i64 N] 192)) w.heap.size s p N := Spo.new _ _ _ _ _
  go_wp2_with fail
  refine (HC.out _).mono ?_
  rintro r1 w1 ⟨rfl, h1⟩
  obtain ⟨hc1, hf1, hz1⟩ := qb h1
  (try simp at hz1)
  have G1 : Spo w1 (w.heap.size) (s) (p) (N) := qSp
  have ⟨G1_0, G1_1, G1_2, G1_z, G1_l⟩ := G1
  clear hc1 hf1
  go_wp2_with fail
  refine (HE.out _).mono ?_
  exact qt70
 ·have HE : qH 185 #[.agg #[.int .i64 (p), .int .i64 (ctd s p N)]] (.bool false) := fun ww => tEmptyN _ _ ww he
  have HO : qH 87 #[.string s, .agg #[.int .i64 (p), .int .i64 (ctd s p N)]] (.string (s.extract p (ctd s p N))) := fun ww => tOf_any s _ _ _ _ ww hs rfl rfl hcl.1 hcl.2.1
  have hos : (s.extract p (ctd s p N)).size ≤ 1000 := by rw [ByteArray.size_extract]; omega
  have HEa : qH 193 #[.string (s.extract p (ctd s p N)), .func (.func 194) #[] #[]] (.string ⟨((s.extract p (ctd s p N)).data.toList.map turnU).toArray⟩) := fun ww => tEach _ _ turnU ww hos (enters_of Tryz.func194 qk rfl) (fun c w2 => tTurnedB c w2)
  have hms : (⟨((s.extract p (ctd s p N)).data.toList.map turnU).toArray⟩ : ByteArray).size = ctd s p N - p := by
   show ((s.extract p (ctd s p N)).data.toList.map turnU).toArray.size = _
   have : (s.extract p (ctd s p N)).size = ctd s p N - p := by rw [ByteArray.size_extract]; omega
   rw [List.size_toArray, List.length_map, Array.length_toList]
   exact this
  have HW : qH 192 #[.string s, .agg #[.int .i64 (p), .int .i64 (ctd s p N)], .string ⟨((s.extract p (ctd s p N)).data.toList.map turnU).toArray⟩] (.string (wth s ⟨((s.extract p (ctd s p N)).data.toList.map turnU).toArray⟩ p (ctd s p N))) := fun ww => tWith_any s _ p (ctd s p N) p (ctd s p N) ww hs qo rfl rfl hcl.1 hcl.2.1
  have hX := wth_size (s := s) (b := ⟨((s.extract p (ctd s p N)).data.toList.map turnU).toArray⟩) hcl.1 hcl.2.1
  refine ⟨wth s ⟨((s.extract p (ctd s p N)).data.toList.map turnU).toArray⟩ p (ctd s p N), ctd s p N, true, fun _ => by omega, fun w => ?_⟩
  generalize wth s ⟨((s.extract p (ctd s p N)).data.toList.map turnU).toArray⟩ p (ctd s p N) = X at *
  generalize (⟨((s.extract p (ctd s p N)).data.toList.map turnU).toArray⟩ : ByteArray) = A at *
  generalize s.extract p (ctd s p N) = O at *
  generalize ctd s p N = D at *
  clear hX hms hos he
  go_enter Tryz.func157, Tryz.ntmps157
  have G : Spo (w.alloc (.cells #[.string s, .int .i64 p, .int .i64 N] 192)) w.heap.size s p N := Spo.new _ _ _ _ _
  go_wp2_with fail
  refine (HC.out _).mono ?_
  rintro r1 w1 ⟨rfl, h1⟩
  obtain ⟨hc1, hf1, hz1⟩ := qb h1
  (try simp at hz1)
  have G1 : Spo w1 (w.heap.size) (s) (p) (N) := qSp
  have ⟨G1_0, G1_1, G1_2, G1_z, G1_l⟩ := G1
  clear hc1 hf1
  have E : Two (w1.alloc (.cells #[.int .i64 p, .int .i64 D] 128)) w1.heap.size p D := Two.new _ _ _ _
  have G2 : Spo (w1.alloc (.cells #[.int .i64 p, .int .i64 D] 128)) w.heap.size s p N := G1.alloc _
  clear G
  go_wp2_with fail
  refine (HE.out _).mono ?_
  rintro r2 w2 ⟨rfl, h2⟩
  obtain ⟨hc2, hf2, hz2⟩ := qb h2
  (try simp at hz2)
  have G22 : Spo w2 (w.heap.size) (s) (p) (N) := qSp
  have ⟨G22_0, G22_1, G22_2, G22_z, G22_l⟩ := G22
  have E2 : Two w2 (w1.heap.size) (p) (D) := qTw
  have ⟨E2_0, E2_1, E2_z, E2_l⟩ := E2
  clear hc2 hf2
  go_wp2_with fail
  go_region_held3 (fun ww => ww.cell? ⟨w.heap.size, 0, none⟩ = some (.string s) ∧ ww.cell? ⟨w1.heap.size, 0, none⟩ = some (.int .i64 p) ∧ ww.cell? ⟨w1.heap.size, 1, none⟩ = some (.int .i64 D)) (exact qK) (first | (go_at_call 87; refine Calls.mono (HO.out _) ?_; rintro r3 w3 ⟨rfl, h3⟩; have hz3 := h3.size; (try simp at hz3); (try have ⟨hl3_0, hk3_0⟩ := qL w.heap.size w3.heap.size); (try have ⟨hl3_1, hk3_1⟩ := qL w1.heap.size w3.heap.size)) | (go_at_call 193; refine Calls.mono (HEa.out _) ?_; rintro r4 w4 ⟨rfl, h4⟩; have hz4 := h4.size; (try simp at hz4); (try have ⟨hl4_0, hk4_0⟩ := qL w.heap.size w4.heap.size); (try have ⟨hl4_1, hk4_1⟩ := qL w1.heap.size w4.heap.size)) | (go_at_call 192; refine Calls.mono (HW.out _) ?_; rintro r5 w5 ⟨rfl, h5⟩; have hz5 := h5.size; (try simp at hz5); (try have ⟨hl5_0, hk5_0⟩ := qL w.heap.size w5.heap.size); (try have ⟨hl5_1, hk5_1⟩ := qL w1.heap.size w5.heap.size)))
  go_wp2
  go_ret3
  refine ⟨rfl, ?_⟩
  repeat exact qB
end Go.Proofs.YtlendfhehhacpaaGreat
