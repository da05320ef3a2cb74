/- A part. -/
import Derived.Test.YtlendfhehhacpaaGreatU12
import Derived.Test.YtlendfhehhacpaaGreatU13
import Derived.Test.YtlendfhehhacpaaGreatU11
set_option linter.unusedVariables false
set_option linter.unusedSimpArgs false
set_option maxRecDepth 100000
set_option maxHeartbeats 8000000
namespace Go.Proofs.YtlendfhehhacpaaGreat
open Go.RowKit Nib Tryz
theorem mStart (r d : Nat) (p : Pg) (w : World) (h : RdAt w r d p) (hn : p.n ≤ 99) (hb : p.behind ≤ 99) :
  qC 168 #[.pointer (some ⟨r, 0, none⟩)] w (.agg #[.string p.t, .int .i64 (p.pl), .int .i64 (cnt p), .bool (p.verb != 0), .bool (p.verb == 99)]) := by
 have HC : Hid (∀ ww, RdAt ww r d p → qC 200 #[.pointer (some ⟨r, 1, none⟩)] ww (.int .i64 (cnt p))) := fun ww hh => mCount r d p ww hh hn hb
 generalize cnt p = N at *
 have H := h
 obtain ⟨c0, c1, c2, c3, c4, c5, c6, c7, c8, c9, fz, lt⟩ := h.dk
 obtain ⟨b0, b1, b2, b3, b4, b5, bz, bl⟩ := h.bg
 clear c2 c3 c4 c5 c6 c7 c8 c9 b1 b2 b4 b5
 have l1 : d < w.heap.size + 1 := by omega
 have l2 : r < w.heap.size + 1 := by omega
 have n1 : ¬ w.heap.size = d := by omega
 have n2 : ¬ d = w.heap.size := by omega
 have n3 : ¬ w.heap.size = r := by omega
 have n4 : ¬ r = w.heap.size := by omega
 go_enter func168, ntmps168
 go_wp2_with fail
 go_region_held3 (fun ww => ww.cell? ⟨d, 0, none⟩ = some (.string p.t) ∧ ww.cell? ⟨d, 1, none⟩ = some (.int .i64 (p.pl : Nat)) ∧ ww.cell? ⟨r, 0, none⟩ = some (.pointer (some ⟨d, 0, none⟩)) ∧ ww.cell? ⟨r, 3, none⟩ = some (.int .u8 p.verb)) (exact qK) ((go_at_call 200; refine Calls.mono (HC.out _ qRd) ?_; rintro r1 w1 ⟨rfl, h1⟩; have hz1 := h1.size; (try simp at hz1); (try have ⟨hl1_0, hk1_0⟩ := qL d w1.heap.size); (try have ⟨hl1_1, hk1_1⟩ := qL r w1.heap.size); obtain ⟨hc1, hf1⟩ := bcell h1; have hn1_0 := (hc1 (w.heap.size) 0 qO).trans (show _ = some (.string ⟨#[]⟩) by simp); have hn1_1 := (hc1 (w.heap.size) 1 qO).trans (show _ = some (.int .i64 0) by simp); have hn1_2 := (hc1 (w.heap.size) 2 qO).trans (show _ = some (.int .i64 0) by simp); have hn1_3 := (hc1 (w.heap.size) 3 qO).trans (show _ = some (.bool false) by simp); have hn1_4 := (hc1 (w.heap.size) 4 qO).trans (show _ = some (.bool false) by simp); have hq1 := fun o => (hf1 (w.heap.size) o qO).trans (show _ = false by simp); have hg1 : w.heap.size < w1.heap.size := qo; clear hc1 hf1))
 go_wp2
 exact qV (.agg #[.string p.t, .int .i64 (p.pl), .int .i64 (N), .bool (p.verb != 0), .bool (p.verb == 99)]) (by simp [results, results168, go_sem, hn1_0, hn1_1, hn1_2, hn1_3, hn1_4]) rfl
def arrEd (p : Pg) (r : Int × Int × Bool) : Pg := if r.2.2 = true then p else { p with pl := clm p.t r.1.toNat }
theorem mArrive (r d : Nat) (p : Pg) (R : Int × Int × Bool) (w : World) (h : RdAt w r d p) (hs : p.t.size ≤ 1000) (hv : p.verb = 0) (hR : R.2.2 = false → 0 ≤ R.1 ∧ R.1 ≤ p.t.size) :
  Calls Tryz.prog 166 #[.pointer (some ⟨r, 0, none⟩), .agg #[.int .i64 (wayX R), .int .i64 (wayK R)], .bool (wayZ R)] w fun e w' =>
   e = .returned (.int .i64 (if R.2.2 = true then 4 else 1)) ∧ RdAt w' r d (arrEd p R) ∧ Upd [d] w w' := by
 have H := h
 obtain ⟨b0, b1, b2, b3, b4, b5, bz, bl⟩ := h.bg
 rw [hv] at b3
 have dl := h.dk.lt
 have l1 : d < w.heap.size + 1 := by omega
 have l2 : r < w.heap.size + 1 := by omega
 cases hz : R.2.2 with
 | true =>
  have e1 : wayX R = 0 := by simp [wayX, hz]
  have e2 : wayK R = 0 := by simp [wayK, hz]
  have e3 : wayZ R = false := by simp [wayZ, hz]
  have HE : Hid (arrEd p R = p) := by rw [Hid, arrEd, if_pos hz]
  rw [e1, e2, e3]
  generalize arrEd p R = p2 at *
  clear h hv hR hz e1 e2 e3
  simp only [if_true]
  go_enter func166, ntmps166
  go_wp2
  go_ret
  refine ⟨rfl, ?_, ?_⟩
  ·rw [HE.out]
   repeat exact qRd
  ·repeat exact qU
 | false =>
  obtain ⟨hq0, hq1⟩ := hR hz
  obtain ⟨q, hq⟩ := Int.eq_ofNat_of_zero_le hq0
  have e1 : wayX R = q := by simp [wayX, hz, hq]
  have e3 : wayZ R = true := by simp [wayZ, hz]
  have HM : Hid (∀ ww, RdAt ww r d p → Calls Tryz.prog 179 #[.pointer (some ⟨d, 0, none⟩), .int .i64 q] ww fun e w' => e = .returned (.tuple #[]) ∧ RdAt w' r d (arrEd p R) ∧ Upd [d] ww w') := by
   intro ww hh
   have := mMoveTo r d p q q ww hh hs rfl qo
   rw [arrEd, if_neg (by simp [hz]), hq]
   exact this
  rw [e1, e3]
  generalize wayK R = K at *
  generalize arrEd p R = p2 at *
  clear h hv hR hz e1 e3 hq hq0 hq1
  simp only [Bool.false_eq_true, if_false]
  go_enter func166, ntmps166
  go_wp2_with fail
  go_region_held3 (fun ww => ww.cell? ⟨r, 0, none⟩ = some (.pointer (some ⟨d, 0, none⟩)) ∧ ww.cell? ⟨w.heap.size, 0, none⟩ = some (.int .i64 q)) (exact qK) ((go_at_call 179; refine Calls.mono (HM.out _ qRd) ?_; rintro e w1 ⟨rfl, h1, hu1⟩; have g0 := h1.bg.c0; have g1 := (hu1.cell (b := w.heap.size) (o := 0) qs qi).trans (show _ = some (.int .i64 (q : Int)) by simp)))
  exact qt13
theorem mEscape (r d : Nat) (p : Pg) (w : World) (h : RdAt w r d p) :
  Calls Tryz.prog 135 #[.pointer (some ⟨r, 0, none⟩)] w fun e w' => e = .returned (.int .i64 1) ∧ RdAt w' r d { p.none' with mode := 0, anchor := 0 } ∧ Upd [r, d] w w' := by
 have H := h
 have HN : Hid (∀ ww, RdAt ww r d p.none' → Calls Tryz.prog 136 #[.pointer (some ⟨d, 0, none⟩)] ww fun e w' => e = .returned (.tuple #[]) ∧ RdAt w' r d { p.none' with mode := 0, anchor := 0 } ∧ Upd [d] ww w') := fun ww hh => mToNormal r d p.none' ww hh
 have HF : Hid (∀ ww, RdAt ww r d p → Calls Tryz.prog 65 #[.pointer (some ⟨r, 1, none⟩)] ww fun e w' => e = .returned (.tuple #[]) ∧ RdAt w' r d p.none' ∧ Upd [r] ww w') := fun ww hh => mForget r d p ww hh
 generalize p.none' = p1 at *
 generalize hp2 : ({ p1 with mode := 0, anchor := 0 } : Pg) = p2 at *
 clear hp2
 obtain ⟨b0, b1, b2, b3, b4, b5, bz, bl⟩ := h.bg
 clear h
 go_enter func135, ntmps135
 go_wp2_with fail
 refine Calls.mono (HF.out _ qRd) ?_
 rintro e w1 ⟨rfl, h1, u1⟩
 have g0 := h1.bg.c0
 go_wp2_with fail
 refine Calls.mono (HN.out _ qRd) ?_
 rintro e w2 ⟨rfl, h2, u2⟩
 exact qt13
theorem mWay_part (r d : Nat) (p : Pg) (key : Int) (w : World) (h : RdAt w r d p) (hk : isFind key = true ∨ key = 103) :
  Calls Tryz.prog 148 #[.pointer (some ⟨r, 0, none⟩), .int .u8 key] w fun e w' => e = .returned (.int .i64 0) ∧ RdAt w' r d { p with part := key } ∧ Upd [r] w w' := by
 have H := h
 have HN : Hid (∀ ww, RdAt ww r d p → Calls Tryz.prog 142 #[.pointer (some ⟨r, 1, none⟩), .int .u8 key] ww fun e w' => e = .returned (.int .i64 0) ∧ RdAt w' r d { p with part := key } ∧ Upd [r] ww w') := fun ww hh => mAwait r d p key ww hh
 generalize hp2 : ({ p with part := key } : Pg) = p2 at *
 clear hp2
 obtain ⟨b0, b1, b2, b3, b4, b5, bz, bl⟩ := h.bg
 clear h
 simp only [isFind, Bool.or_eq_true, beq_iff_eq] at hk
 rcases hk with (((hk | hk) | hk) | hk) | hk
 all_goals
  subst hk
  go_enter func148, ntmps148
  go_wp2_with fail
  refine Calls.mono (HN.out _ qRd) ?_
  rintro e w1 ⟨rfl, h1, u1⟩
  go_wp2
  go_ret
  refine ⟨rfl, ?_, ?_⟩
  ·repeat exact qRd
  ·repeat exact qU
theorem qt31 {P : Prop} (h : P := by
  go_wp2_with fail
  refine Calls.mono (HS.out _ qRd) ?_
  rintro e w1 ⟨rfl, h1⟩
  go_wp2_with fail
  refine Calls.mono (HG.out _) ?_
  rintro e w2 ⟨rfl, h2⟩
  go_wp2_with fail
  refine Calls.mono (HA.out _ qRd) ?_
  rintro e w3 ⟨rfl, h3, u3⟩
  exact qt13
 ) : P := h
theorem mWay_go (r d : Nat) (p : Pg) (key : Int) (R : Int × Int × Bool) (w : World) (h : RdAt w r d p) (hn : p.n ≤ 99) (hb : p.behind ≤ 99) (hs : p.t.size ≤ 1000) (hv : p.verb = 0)
  (hR : R.2.2 = false → 0 ≤ R.1 ∧ R.1 ≤ p.t.size) (hk1 : isFind key = false) (hk2 : ¬ key = 103) (hk3 : ¬ key = 59) (hk4 : ¬ key = 44)
  (HG : qH 169 #[.int .u8 key, .agg #[.string p.t, .int .i64 (p.pl), .int .i64 (cnt p), .bool false, .bool false]] (.tuple #[.agg #[.int .i64 (wayX (R)), .int .i64 (wayK (R))], .bool (wayZ (R))])) :
  Calls Tryz.prog 148 #[.pointer (some ⟨r, 0, none⟩), .int .u8 key] w fun e w' =>
   e = .returned (.int .i64 (if R.2.2 = true then 4 else 1)) ∧ RdAt w' r d (arrEd p R) ∧ Upd [d] w w' := by
 have H := h
 have HS : Hid (∀ ww, RdAt ww r d p → qC 168 #[.pointer (some ⟨r, 0, none⟩)] ww (.agg #[.string p.t, .int .i64 (p.pl), .int .i64 (cnt p), .bool false, .bool false])) := by
  intro ww hh
  have := mStart r d p ww hh hn hb
  rw [hv] at this
  exact this
 have HA : Hid (∀ ww, RdAt ww r d p → Calls Tryz.prog 166 #[.pointer (some ⟨r, 0, none⟩), .agg #[.int .i64 (wayX R), .int .i64 (wayK R)], .bool (wayZ R)] ww fun e w' =>
   e = .returned (.int .i64 (if R.2.2 = true then 4 else 1)) ∧ RdAt w' r d (arrEd p R) ∧ Upd [d] ww w') := fun ww hh => mArrive r d p R ww hh hs hv hR
 generalize (if R.2.2 = true then (4 : Int) else 1) = O at *
 generalize arrEd p R = p2 at *
 generalize wayX R = X at *
 generalize wayK R = K at *
 generalize wayZ R = Z at *
 simp only [isFind, Bool.or_eq_false_iff, beq_eq_false_iff_ne] at hk1
 obtain ⟨⟨⟨k1, k2⟩, k3⟩, k4⟩ := hk1
 have k1' : (key == 102) = false := by simp [k1]
 have k2' : (key == 116) = false := by simp [k2]
 have k3' : (key == 70) = false := by simp [k3]
 have k4' : (key == 84) = false := by simp [k4]
 have k5' : (key == 103) = false := by simp [hk2]
 have k6' : (key == 59) = false := by simp [hk3]
 have k7' : (key == 44) = false := by simp [hk4]
 clear k1 k2 k3 k4 hk2 hk3 hk4 hv hR h
 go_enter func148, ntmps148
 exact qt31
