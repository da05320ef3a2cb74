/- A part. -/
import Derived.Test.YtlendfhehhacpaaGreatP07
import Derived.Test.YtlendfhehhacpaaGreatP05
import Derived.Test.YtlendfhehhacpaaGreatP06
set_option linter.unusedVariables false
set_option linter.unusedSimpArgs false
set_option maxRecDepth 100000
set_option maxHeartbeats 8000000
namespace Go.Proofs.YtlendfhehhacpaaGreat
open Go.RowKit
theorem mStart (r d : Nat) (p : Pg) (w : World) (h : RdAt w r d p) (hn : p.n ≤ 99) (hb : p.behind ≤ 99) :
  qC 168 #[.pointer (some ⟨r, 0, none⟩)] w (.agg #[.string p.t, .int .i64 (p.pl), .int .i64 (cnt p), .bool (p.verb != 0), .bool (p.verb == 99)]) := by
 have HC : Hid (∀ ww, RdAt ww r d p → qC 200 #[.pointer (some ⟨r, 1, none⟩)] ww (.int .i64 (cnt p))) := fun ww hh => mCount r d p ww hh hn hb
 generalize cnt p = N at *
 have H := h
 obtain ⟨c0, c1, c2, c3, c4, c5, c6, c7, c8, c9, fz, lt⟩ := h.dk
 obtain ⟨b0, b1, b2, b3, b4, b5, bz, bl⟩ := h.bg
 clear c2 c3 c4 c5 c6 c7 c8 c9 b1 b2 b4 b5
 have l1 : d < w.heap.size + 1 := by omega
 have l2 : r < w.heap.size + 1 := by omega
 have n1 : ¬ w.heap.size = d := by omega
 have n2 : ¬ d = w.heap.size := by omega
 have n3 : ¬ w.heap.size = r := by omega
 have n4 : ¬ r = w.heap.size := by omega
 go_enter Tryz.func168, Tryz.ntmps168
 go_wp2_with fail
 go_region_held3 (fun ww => ww.cell? ⟨d, 0, none⟩ = some (.string p.t) ∧ ww.cell? ⟨d, 1, none⟩ = some (.int .i64 (p.pl : Nat)) ∧ ww.cell? ⟨r, 0, none⟩ = some (.pointer (some ⟨d, 0, none⟩)) ∧ ww.cell? ⟨r, 3, none⟩ = some (.int .u8 p.verb)) (exact qK) ((go_at_call 200; refine Calls.mono (HC.out _ qRd) ?_; rintro r1 w1 ⟨rfl, h1⟩; have hz1 := h1.size; (try simp at hz1); (try have ⟨hl1_0, hk1_0⟩ := qL d w1.heap.size); (try have ⟨hl1_1, hk1_1⟩ := qL r w1.heap.size); obtain ⟨hc1, hf1⟩ := bcell h1; have hn1_0 := (hc1 (w.heap.size) 0 qO).trans (show _ = some (.string ⟨#[]⟩) by simp); have hn1_1 := (hc1 (w.heap.size) 1 qO).trans (show _ = some (.int .i64 0) by simp); have hn1_2 := (hc1 (w.heap.size) 2 qO).trans (show _ = some (.int .i64 0) by simp); have hn1_3 := (hc1 (w.heap.size) 3 qO).trans (show _ = some (.bool false) by simp); have hn1_4 := (hc1 (w.heap.size) 4 qO).trans (show _ = some (.bool false) by simp); have hq1 := fun o => (hf1 (w.heap.size) o qO).trans (show _ = false by simp); have hg1 : w.heap.size < w1.heap.size := qo; clear hc1 hf1))
 go_wp2
 exact qV (.agg #[.string p.t, .int .i64 (p.pl), .int .i64 (N), .bool (p.verb != 0), .bool (p.verb == 99)]) (by simp [results, Tryz.results168, go_sem, hn1_0, hn1_1, hn1_2, hn1_3, hn1_4]) rfl
def arrEd (p : Pg) (r : Int × Int × Bool) : Pg := if r.2.2 = true then p else { p with pl := Nib.clm p.t r.1.toNat }
theorem mArrive (r d : Nat) (p : Pg) (R : Int × Int × Bool) (w : World) (h : RdAt w r d p) (hs : p.t.size ≤ 1000) (hv : p.verb = 0) (hR : R.2.2 = false → 0 ≤ R.1 ∧ R.1 ≤ p.t.size) :
  Calls Tryz.prog 166 #[.pointer (some ⟨r, 0, none⟩), .agg #[.int .i64 (wayX R), .int .i64 (wayK R)], .bool (wayZ R)] w fun e w' =>
   e = .returned (.int .i64 (if R.2.2 = true then 4 else 1)) ∧ RdAt w' r d (arrEd p R) ∧ Upd [d] w w' := by
 have H := h
 obtain ⟨b0, b1, b2, b3, b4, b5, bz, bl⟩ := h.bg
 rw [hv] at b3
 have dl := h.dk.lt
 have l1 : d < w.heap.size + 1 := by omega
 have l2 : r < w.heap.size + 1 := by omega
 cases hz : R.2.2 with
 | true =>
  have e1 : wayX R = 0 := by simp [wayX, hz]
  have e2 : wayK R = 0 := by simp [wayK, hz]
  have e3 : wayZ R = false := by simp [wayZ, hz]
  have HE : Hid (arrEd p R = p) := by rw [Hid, arrEd, if_pos hz]
  rw [e1, e2, e3]
  generalize arrEd p R = p2 at *
  clear h hv hR hz e1 e2 e3
  simp only [if_true]
  go_enter Tryz.func166, Tryz.ntmps166
  go_wp2
  go_ret
  refine ⟨rfl, ?_, ?_⟩
  ·rw [HE.out]
   repeat exact qRd
  ·repeat exact qU
 | false =>
  obtain ⟨hq0, hq1⟩ := hR hz
  obtain ⟨q, hq⟩ := Int.eq_ofNat_of_zero_le hq0
  have e1 : wayX R = q := by simp [wayX, hz, hq]
  have e3 : wayZ R = true := by simp [wayZ, hz]
  have HM : Hid (∀ ww, RdAt ww r d p → Calls Tryz.prog 179 #[.pointer (some ⟨d, 0, none⟩), .int .i64 q] ww fun e w' => e = .returned (.tuple #[]) ∧ RdAt w' r d (arrEd p R) ∧ Upd [d] ww w') := by
   intro ww hh
   have := mMoveTo r d p q q ww hh hs rfl qo
   rw [arrEd, if_neg (by simp [hz]), hq]
   exact this
  rw [e1, e3]
  generalize wayK R = K at *
  generalize arrEd p R = p2 at *
  clear h hv hR hz e1 e3 hq hq0 hq1
  simp only [Bool.false_eq_true, if_false]
  go_enter Tryz.func166, Tryz.ntmps166
  go_wp2_with fail
  go_region_held3 (fun ww => ww.cell? ⟨r, 0, none⟩ = some (.pointer (some ⟨d, 0, none⟩)) ∧ ww.cell? ⟨w.heap.size, 0, none⟩ = some (.int .i64 q)) (exact qK) ((go_at_call 179; refine Calls.mono (HM.out _ qRd) ?_; rintro e w1 ⟨rfl, h1, hu1⟩; have g0 := h1.bg.c0; have g1 := (hu1.cell (b := w.heap.size) (o := 0) qs qi).trans (show _ = some (.int .i64 (q : Int)) by simp)))
  exact qt16
end Go.Proofs.YtlendfhehhacpaaGreat
