/- A part. -/
import Derived.Test.YtlendfhehhacpaaGreatT14
import Derived.Shelf.Strconv.Clone
set_option linter.unusedVariables false
set_option linter.unusedSimpArgs false
set_option maxRecDepth 100000
set_option maxHeartbeats 8000000
namespace Go.Proofs.YtlendfhehhacpaaGreat
open Go.RowKit Go.Shelf Nib Tryz
def cloneRen : Go.Shelf.Ren := ⟨fun | 316 => 107 | n => n,
 fun | 0 => 0 | 3 => 3 | 4 => 4 | 5 => 5 | 9 => 9 | 37 => 48 | 127 => 166 | n => n, fun | n => n⟩
theorem cloneLays : LaysM.n316 Tryz.prog cloneRen := {
 mixed := by kernel_rfl
 f316 := func107.trans (congrArg some qk)
 t0 := underlying0
 a0 := isAgg0
 z0 := sizeOf0
 v0 := zeroValue0
 t3 := underlying3
 a3 := isAgg3
 z3 := sizeOf3
 v3 := zeroValue3
 t4 := underlying4
 a4 := isAgg4
 z4 := sizeOf4
 v4 := zeroValue4
 t5 := underlying5
 a5 := isAgg5
 z5 := sizeOf5
 v5 := zeroValue5
 t9 := underlying9
 a9 := isAgg9
 z9 := sizeOf9
 v9 := zeroValue9
 t37 := underlying48
 a37 := isAgg48
 z37 := sizeOf48
 v37 := zeroValue48
 t127 := underlying166
 a127 := isAgg166
 z127 := sizeOf166
 v127 := zeroValue166
 i0 := by kernel_rfl
 i3 := by kernel_rfl
 i4 := by kernel_rfl
 i5 := by kernel_rfl
 i9 := by kernel_rfl
 i37 := by kernel_rfl
 i127 := by kernel_rfl }
theorem sClone (s : ByteArray) (w : World) (hs : s.size ≤ 1000) :
  qC 86 #[.string s] w (.string s) := by
 have HC : qH 107 #[.string s] (.string s) := fun ww => Any.stringslite_Clone cloneLays s ww qo
 go_enter func86, ntmps86
 go_wp2_with fail
 refine (HC.out _).mono ?_
 rintro e w1 ⟨rfl, h1⟩
 obtain ⟨hc1, hf1, hz1⟩ := qb h1
 try simp at hz1
 go_wp2
 exact qV (.string s) (by simp [results, results86, go_sem]) rfl
theorem ahd_le (s t : ByteArray) : ahd s t ≤ min s.size t.size := up_le (Nat.zero_le _)
theorem bhd_le (s t : ByteArray) : ahd s t + bhd s t ≤ min s.size t.size := by
 have h1 := ahd_le s t
 have h2 : bhd s t ≤ min s.size t.size - ahd s t := up_le (Nat.zero_le _)
 omega
def brt (s t : ByteArray) : ByteArray := t.extract (ahd s t) (t.size - bhd s t)
theorem hBetween (s t : ByteArray) (w : World) (hs : s.size ≤ 1000) (ht : t.size ≤ 1000) :
  qC 67 #[.string s, .string t] w (.agg #[.int .i64 (ahd s t : Nat), .int .i64 ((s.size - bhd s t : Nat) : Int), .string (brt s t)]) := by
 have h1 := bhd_le s t
 have HA : qH 85 #[.string s, .string t] (.tuple #[.agg #[.int .i64 (ahd s t), .int .i64 (((s.size - bhd s t : Nat) : Int))], .agg #[.int .i64 (ahd s t), .int .i64 (((t.size - bhd s t : Nat) : Int))]]) := by
  intro ww
  have := tApart_any s t ww hs ht
  rw [show (s.size : Int) - bhd s t = ((s.size - bhd s t : Nat) : Int) by omega, show (t.size : Int) - bhd s t = ((t.size - bhd s t : Nat) : Int) by omega] at this
  exact this
 have HO : qH 87 #[.string t, .agg #[.int .i64 (ahd s t), .int .i64 (((t.size - bhd s t : Nat) : Int))]] (.string (brt s t)) := fun ww => tOf_any t _ _ (ahd s t) (t.size - bhd s t) ww ht rfl rfl qo qo
 have HC : qH 86 #[.string (brt s t)] (.string (brt s t)) := fun ww => sClone (brt s t) ww (by unfold brt; rw [ByteArray.size_extract]; omega)
 generalize ahd s t = A at *
 generalize s.size - bhd s t = E1 at *
 generalize t.size - bhd s t = E2 at *
 generalize brt s t = X at *
 clear h1
 go_enter func67, ntmps67
 go_wp2_with fail
 refine (HA.out _).mono ?_
 rintro e w1 ⟨rfl, h1⟩
 obtain ⟨hc1, hf1, hz1⟩ := qb h1
 try simp at hz1
 have hb1_0 := fun o => hc1 (w.heap.size) o qO
 have fb1_0 := fun o => hf1 (w.heap.size) o qO
 have ⟨hg1_0, hh1_0⟩ := qL w.heap.size w1.heap.size
 have b0 : w1.cell? ⟨w.heap.size, 0, none⟩ = some (.int .i64 0) := by rw [hb1_0]; simp
 have b1 : w1.cell? ⟨w.heap.size, 1, none⟩ = some (.int .i64 0) := by rw [hb1_0]; simp
 have b2 : w1.cell? ⟨w.heap.size, 2, none⟩ = some (.string ⟨#[]⟩) := by rw [hb1_0]; simp
 have bz : ∀ o, w1.frozen? ⟨w.heap.size, o, none⟩ = false := fun o => (fb1_0 o).trans qi
 clear hc1 hf1 hb1_0 fb1_0
 have c0 : ((w1.alloc (.cells #[.int .i64 (A : Nat), .int .i64 (E1 : Nat)] 128)).alloc (.cells #[.int .i64 (A : Nat), .int .i64 (E2 : Nat)] 128)).cell? ⟨w1.heap.size, 0, none⟩ = some (.int .i64 (A : Nat)) := by simp
 have c1 : ((w1.alloc (.cells #[.int .i64 (A : Nat), .int .i64 (E1 : Nat)] 128)).alloc (.cells #[.int .i64 (A : Nat), .int .i64 (E2 : Nat)] 128)).cell? ⟨w1.heap.size, 1, none⟩ = some (.int .i64 (E1 : Nat)) := by simp
 have c2 : ((w1.alloc (.cells #[.int .i64 (A : Nat), .int .i64 (E1 : Nat)] 128)).alloc (.cells #[.int .i64 (A : Nat), .int .i64 (E2 : Nat)] 128)).cell? ⟨w1.heap.size + 1, 0, none⟩ = some (.int .i64 (A : Nat)) := by simp
 have c3 : ((w1.alloc (.cells #[.int .i64 (A : Nat), .int .i64 (E1 : Nat)] 128)).alloc (.cells #[.int .i64 (A : Nat), .int .i64 (E2 : Nat)] 128)).cell? ⟨w1.heap.size + 1, 1, none⟩ = some (.int .i64 (E2 : Nat)) := by simp
 go_wp2_with fail
 go_region_held3 (fun ww => ww.cell? ⟨w1.heap.size, 0, none⟩ = some (.int .i64 (A : Nat)) ∧ ww.cell? ⟨w1.heap.size, 1, none⟩ = some (.int .i64 (E1 : Nat)) ∧ ww.cell? ⟨w1.heap.size + 1, 0, none⟩ = some (.int .i64 (A : Nat)) ∧ ww.cell? ⟨w1.heap.size + 1, 1, none⟩ = some (.int .i64 (E2 : Nat))) (exact qK) (first | (go_at_call 87; refine Calls.mono (HO.out _) ?_; rintro r2 w2 ⟨rfl, h2⟩; have hz2 := h2.size; (try simp at hz2); (try have ⟨hl2_0, hk2_0⟩ := qL w1.heap.size w2.heap.size); (try have ⟨hl2_1, hk2_1⟩ := qL (w1.heap.size + 1) w2.heap.size); obtain ⟨hc2, hf2⟩ := bcell h2; have hb2_0 := fun o => hc2 (w.heap.size) o qO; have fb2_0 := fun o => hf2 (w.heap.size) o qO; (try have hg2_0 : w.heap.size < w2.heap.size := qo); clear hc2 hf2) | (go_at_call 86; refine Calls.mono (HC.out _) ?_; rintro r3 w3 ⟨rfl, h3⟩; have hz3 := h3.size; (try simp at hz3); (try have ⟨hl3_0, hk3_0⟩ := qL w1.heap.size w3.heap.size); (try have ⟨hl3_1, hk3_1⟩ := qL (w1.heap.size + 1) w3.heap.size); obtain ⟨hc3, hf3⟩ := bcell h3; have hb3_0 := fun o => hc3 (w.heap.size) o qO; have fb3_0 := fun o => hf3 (w.heap.size) o qO; (try have hg3_0 : w.heap.size < w3.heap.size := qo); clear hc3 hf3))
 go_wp2
 have u0 : (w3).cell? ⟨w.heap.size, 0, none⟩ = some (.int .i64 0) := qM
 have u1 : (w3).cell? ⟨w.heap.size, 1, none⟩ = some (.int .i64 0) := qM
 have u2 : (w3).cell? ⟨w.heap.size, 2, none⟩ = some (.string ⟨#[]⟩) := qM
 exact qV (.agg #[.int .i64 (A : Nat), .int .i64 (E1 : Nat), .string X]) (by simp [results, results67, go_sem, u0, u1, u2]) rfl
