/- A part. -/
import Derived.Test.YtlendfhehhacpaaGreatT09
import Derived.Test.YtlendfhehhacpaaGreatT07
import Derived.OwnWalk
import Derived.ArgAppend
import Derived.Maps.Keyed
set_option linter.unusedVariables false
set_option linter.unusedSimpArgs false
set_option maxRecDepth 100000
set_option maxHeartbeats 8000000
namespace Go.Proofs.YtlendfhehhacpaaGreat
open Go.RowKit Nib Tryz
theorem mStart (r d : Nat) (p : Pg) (w : World) (h : RdAt w r d p) (hn : p.n ≤ 99) (hb : p.behind ≤ 99) :
  qC 168 #[.pointer (some ⟨r, 0, none⟩)] w (.agg #[.string p.t, .int .i64 (p.pl), .int .i64 (cnt p), .bool (p.verb != 0), .bool (p.verb == 99)]) := by
 have HC : Hid (∀ ww, RdAt ww r d p → qC 200 #[.pointer (some ⟨r, 1, none⟩)] ww (.int .i64 (cnt p))) := fun ww hh => mCount r d p ww hh hn hb
 generalize cnt p = N at *
 have H := h
 obtain ⟨c0, c1, c2, c3, c4, c5, c6, c7, c8, c9, fz, lt⟩ := h.dk
 obtain ⟨b0, b1, b2, b3, b4, b5, bz, bl⟩ := h.bg
 clear c2 c3 c4 c5 c6 c7 c8 c9 b1 b2 b4 b5
 have l1 : d < w.heap.size + 1 := by omega
 have l2 : r < w.heap.size + 1 := by omega
 have n1 : ¬ w.heap.size = d := by omega
 have n2 : ¬ d = w.heap.size := by omega
 have n3 : ¬ w.heap.size = r := by omega
 have n4 : ¬ r = w.heap.size := by omega
 go_enter func168, ntmps168
 go_wp2_with fail
 go_region_held3 (fun ww => ww.cell? ⟨d, 0, none⟩ = some (.string p.t) ∧ ww.cell? ⟨d, 1, none⟩ = some (.int .i64 (p.pl : Nat)) ∧ ww.cell? ⟨r, 0, none⟩ = some (.pointer (some ⟨d, 0, none⟩)) ∧ ww.cell? ⟨r, 3, none⟩ = some (.int .u8 p.verb)) (exact qK) ((go_at_call 200; refine Calls.mono (HC.out _ qRd) ?_; rintro r1 w1 ⟨rfl, h1⟩; have hz1 := h1.size; (try simp at hz1); (try have ⟨hl1_0, hk1_0⟩ := qL d w1.heap.size); (try have ⟨hl1_1, hk1_1⟩ := qL r w1.heap.size); obtain ⟨hc1, hf1⟩ := bcell h1; have hn1_0 := (hc1 (w.heap.size) 0 qO).trans (show _ = some (.string ⟨#[]⟩) by simp); have hn1_1 := (hc1 (w.heap.size) 1 qO).trans (show _ = some (.int .i64 0) by simp); have hn1_2 := (hc1 (w.heap.size) 2 qO).trans (show _ = some (.int .i64 0) by simp); have hn1_3 := (hc1 (w.heap.size) 3 qO).trans (show _ = some (.bool false) by simp); have hn1_4 := (hc1 (w.heap.size) 4 qO).trans (show _ = some (.bool false) by simp); have hq1 := fun o => (hf1 (w.heap.size) o qO).trans (show _ = false by simp); have hg1 : w.heap.size < w1.heap.size := qo; clear hc1 hf1))
 go_wp2
 exact qV (.agg #[.string p.t, .int .i64 (p.pl), .int .i64 (N), .bool (p.verb != 0), .bool (p.verb == 99)]) (by simp [results, results168, go_sem, hn1_0, hn1_1, hn1_2, hn1_3, hn1_4]) rfl
def arrEd (p : Pg) (r : Int × Int × Bool) : Pg := if r.2.2 = true then p else { p with pl := clm p.t r.1.toNat }
theorem mArrive (r d : Nat) (p : Pg) (R : Int × Int × Bool) (w : World) (h : RdAt w r d p) (hs : p.t.size ≤ 1000) (hv : p.verb = 0) (hR : R.2.2 = false → 0 ≤ R.1 ∧ R.1 ≤ p.t.size) :
  Calls Tryz.prog 166 #[.pointer (some ⟨r, 0, none⟩), .agg #[.int .i64 (wayX R), .int .i64 (wayK R)], .bool (wayZ R)] w fun e w' =>
   e = .returned (.int .i64 (if R.2.2 = true then 4 else 1)) ∧ RdAt w' r d (arrEd p R) ∧ Upd [d] w w' := by
 have H := h
 obtain ⟨b0, b1, b2, b3, b4, b5, bz, bl⟩ := h.bg
 rw [hv] at b3
 have dl := h.dk.lt
 have l1 : d < w.heap.size + 1 := by omega
 have l2 : r < w.heap.size + 1 := by omega
 cases hz : R.2.2 with
 | true =>
  have e1 : wayX R = 0 := by simp [wayX, hz]
  have e2 : wayK R = 0 := by simp [wayK, hz]
  have e3 : wayZ R = false := by simp [wayZ, hz]
  have HE : Hid (arrEd p R = p) := by rw [Hid, arrEd, if_pos hz]
  rw [e1, e2, e3]
  generalize arrEd p R = p2 at *
  clear h hv hR hz e1 e2 e3
  simp only [if_true]
  go_enter func166, ntmps166
  go_wp2
  go_ret
  refine ⟨rfl, ?_, ?_⟩
  ·rw [HE.out]
   repeat exact qRd
  ·repeat exact qU
 | false =>
  obtain ⟨hq0, hq1⟩ := hR hz
  obtain ⟨q, hq⟩ := Int.eq_ofNat_of_zero_le hq0
  have e1 : wayX R = q := by simp [wayX, hz, hq]
  have e3 : wayZ R = true := by simp [wayZ, hz]
  have HM : Hid (∀ ww, RdAt ww r d p → Calls Tryz.prog 179 #[.pointer (some ⟨d, 0, none⟩), .int .i64 q] ww fun e w' => e = .returned (.tuple #[]) ∧ RdAt w' r d (arrEd p R) ∧ Upd [d] ww w') := by
   intro ww hh
   have := mMoveTo r d p q q ww hh hs rfl qo
   rw [arrEd, if_neg (by simp [hz]), hq]
   exact this
  rw [e1, e3]
  generalize wayK R = K at *
  generalize arrEd p R = p2 at *
  clear h hv hR hz e1 e3 hq hq0 hq1
  simp only [Bool.false_eq_true, if_false]
  go_enter func166, ntmps166
  go_wp2_with fail
  go_region_held3 (fun ww => ww.cell? ⟨r, 0, none⟩ = some (.pointer (some ⟨d, 0, none⟩)) ∧ ww.cell? ⟨w.heap.size, 0, none⟩ = some (.int .i64 q)) (exact qK) ((go_at_call 179; refine Calls.mono (HM.out _ qRd) ?_; rintro e w1 ⟨rfl, h1, hu1⟩; have g0 := h1.bg.c0; have g1 := (hu1.cell (b := w.heap.size) (o := 0) qs qi).trans (show _ = some (.int .i64 (q : Int)) by simp)))
  exact qt15
theorem mEscape (r d : Nat) (p : Pg) (w : World) (h : RdAt w r d p) :
  Calls Tryz.prog 135 #[.pointer (some ⟨r, 0, none⟩)] w fun e w' => e = .returned (.int .i64 1) ∧ RdAt w' r d { p.none' with mode := 0, anchor := 0 } ∧ Upd [r, d] w w' := by
 have H := h
 have HN : Hid (∀ ww, RdAt ww r d p.none' → Calls Tryz.prog 136 #[.pointer (some ⟨d, 0, none⟩)] ww fun e w' => e = .returned (.tuple #[]) ∧ RdAt w' r d { p.none' with mode := 0, anchor := 0 } ∧ Upd [d] ww w') := fun ww hh => mToNormal r d p.none' ww hh
 have HF : Hid (∀ ww, RdAt ww r d p → Calls Tryz.prog 65 #[.pointer (some ⟨r, 1, none⟩)] ww fun e w' => e = .returned (.tuple #[]) ∧ RdAt w' r d p.none' ∧ Upd [r] ww w') := fun ww hh => mForget r d p ww hh
 generalize p.none' = p1 at *
 generalize hp2 : ({ p1 with mode := 0, anchor := 0 } : Pg) = p2 at *
 clear hp2
 obtain ⟨b0, b1, b2, b3, b4, b5, bz, bl⟩ := h.bg
 clear h
 go_enter func135, ntmps135
 go_wp2_with fail
 refine Calls.mono (HF.out _ qRd) ?_
 rintro e w1 ⟨rfl, h1, u1⟩
 have g0 := h1.bg.c0
 go_wp2_with fail
 refine Calls.mono (HN.out _ qRd) ?_
 rintro e w2 ⟨rfl, h2, u2⟩
 exact qt15
theorem mWay_part (r d : Nat) (p : Pg) (key : Int) (w : World) (h : RdAt w r d p) (hk : isFind key = true ∨ key = 103) :
  Calls Tryz.prog 148 #[.pointer (some ⟨r, 0, none⟩), .int .u8 key] w fun e w' => e = .returned (.int .i64 0) ∧ RdAt w' r d { p with part := key } ∧ Upd [r] w w' := by
 have H := h
 have HN : Hid (∀ ww, RdAt ww r d p → Calls Tryz.prog 142 #[.pointer (some ⟨r, 1, none⟩), .int .u8 key] ww fun e w' => e = .returned (.int .i64 0) ∧ RdAt w' r d { p with part := key } ∧ Upd [r] ww w') := fun ww hh => mAwait r d p key ww hh
 generalize hp2 : ({ p with part := key } : Pg) = p2 at *
 clear hp2
 obtain ⟨b0, b1, b2, b3, b4, b5, bz, bl⟩ := h.bg
 clear h
 simp only [isFind, Bool.or_eq_true, beq_iff_eq] at hk
 rcases hk with (((hk | hk) | hk) | hk) | hk
 all_goals
  subst hk
  go_enter func148, ntmps148
  go_wp2_with fail
  refine Calls.mono (HN.out _ qRd) ?_
  rintro e w1 ⟨rfl, h1, u1⟩
  go_wp2
  go_ret
  refine ⟨rfl, ?_, ?_⟩
  ·repeat exact qRd
  ·repeat exact qU
theorem qt55 {P : Prop} (h : P := by
  go_wp2_with fail
  refine Calls.mono (HS.out _ qRd) ?_
  rintro e w1 ⟨rfl, h1⟩
  go_wp2_with fail
  refine Calls.mono (HG.out _) ?_
  rintro e w2 ⟨rfl, h2⟩
  go_wp2_with fail
  refine Calls.mono (HA.out _ qRd) ?_
  rintro e w3 ⟨rfl, h3, u3⟩
  exact qt15
 ) : P := h
theorem mWay_go (r d : Nat) (p : Pg) (key : Int) (R : Int × Int × Bool) (w : World) (h : RdAt w r d p) (hn : p.n ≤ 99) (hb : p.behind ≤ 99) (hs : p.t.size ≤ 1000) (hv : p.verb = 0)
  (hR : R.2.2 = false → 0 ≤ R.1 ∧ R.1 ≤ p.t.size) (hk1 : isFind key = false) (hk2 : ¬ key = 103) (hk3 : ¬ key = 59) (hk4 : ¬ key = 44)
  (HG : qH 169 #[.int .u8 key, .agg #[.string p.t, .int .i64 (p.pl), .int .i64 (cnt p), .bool false, .bool false]] (.tuple #[.agg #[.int .i64 (wayX (R)), .int .i64 (wayK (R))], .bool (wayZ (R))])) :
  Calls Tryz.prog 148 #[.pointer (some ⟨r, 0, none⟩), .int .u8 key] w fun e w' =>
   e = .returned (.int .i64 (if R.2.2 = true then 4 else 1)) ∧ RdAt w' r d (arrEd p R) ∧ Upd [d] w w' := by
 have H := h
 have HS : Hid (∀ ww, RdAt ww r d p → qC 168 #[.pointer (some ⟨r, 0, none⟩)] ww (.agg #[.string p.t, .int .i64 (p.pl), .int .i64 (cnt p), .bool false, .bool false])) := by
  intro ww hh
  have := mStart r d p ww hh hn hb
  rw [hv] at this
  exact this
 have HA : Hid (∀ ww, RdAt ww r d p → Calls Tryz.prog 166 #[.pointer (some ⟨r, 0, none⟩), .agg #[.int .i64 (wayX R), .int .i64 (wayK R)], .bool (wayZ R)] ww fun e w' =>
   e = .returned (.int .i64 (if R.2.2 = true then 4 else 1)) ∧ RdAt w' r d (arrEd p R) ∧ Upd [d] ww w') := fun ww hh => mArrive r d p R ww hh hs hv hR
 generalize (if R.2.2 = true then (4 : Int) else 1) = O at *
 generalize arrEd p R = p2 at *
 generalize wayX R = X at *
 generalize wayK R = K at *
 generalize wayZ R = Z at *
 simp only [isFind, Bool.or_eq_false_iff, beq_eq_false_iff_ne] at hk1
 obtain ⟨⟨⟨k1, k2⟩, k3⟩, k4⟩ := hk1
 have k1' : (key == 102) = false := by simp [k1]
 have k2' : (key == 116) = false := by simp [k2]
 have k3' : (key == 70) = false := by simp [k3]
 have k4' : (key == 84) = false := by simp [k4]
 have k5' : (key == 103) = false := by simp [hk2]
 have k6' : (key == 59) = false := by simp [hk3]
 have k7' : (key == 44) = false := by simp [hk4]
 clear k1 k2 k3 k4 hk2 hk3 hk4 hv hR h
 go_enter func148, ntmps148
 exact qt55
theorem mWay_again (r d : Nat) (p : Pg) (R : Int × Int × Bool) (w : World) (h : RdAt w r d p) (hn : p.n ≤ 99) (hb : p.behind ≤ 99) (hs : p.t.size ≤ 1000) (hv : p.verb = 0)
  (hR : R.2.2 = false → 0 ≤ R.1 ∧ R.1 ≤ p.t.size)
  (HG : qH 183 #[.agg #[.int .u8 p.fnd, .int .u8 p.findC], .agg #[.string p.t, .int .i64 (p.pl), .int .i64 (cnt p), .bool false, .bool false]] (.tuple #[.agg #[.int .i64 (wayX (R)), .int .i64 (wayK (R))], .bool (wayZ (R))])) :
  Calls Tryz.prog 148 #[.pointer (some ⟨r, 0, none⟩), .int .u8 59] w fun e w' =>
   e = .returned (.int .i64 (if R.2.2 = true then 4 else 1)) ∧ RdAt w' r d (arrEd p R) ∧ Upd [d] w w' := by
 have H := h
 have HS : Hid (∀ ww, RdAt ww r d p → qC 168 #[.pointer (some ⟨r, 0, none⟩)] ww (.agg #[.string p.t, .int .i64 (p.pl), .int .i64 (cnt p), .bool false, .bool false])) := by
  intro ww hh
  have := mStart r d p ww hh hn hb
  rw [hv] at this
  exact this
 have HA : Hid (∀ ww, RdAt ww r d p → Calls Tryz.prog 166 #[.pointer (some ⟨r, 0, none⟩), .agg #[.int .i64 (wayX R), .int .i64 (wayK R)], .bool (wayZ R)] ww fun e w' =>
   e = .returned (.int .i64 (if R.2.2 = true then 4 else 1)) ∧ RdAt w' r d (arrEd p R) ∧ Upd [d] ww w') := fun ww hh => mArrive r d p R ww hh hs hv hR
 have f1 : (arrEd p R).fnd = p.fnd := by unfold arrEd; split <;> rfl
 have f2 : (arrEd p R).findC = p.findC := by unfold arrEd; split <;> rfl
 generalize (if R.2.2 = true then (4 : Int) else 1) = O at *
 generalize arrEd p R = p2 at *
 generalize wayX R = X at *
 generalize wayK R = K at *
 generalize wayZ R = Z at *
 obtain ⟨c0, c1, c2, c3, c4, c5, c6, c7, c8, c9, fz, lt⟩ := h.dk
 obtain ⟨b0, b1, b2, b3, b4, b5, bz, bl⟩ := h.bg
 clear c0 c1 c2 c3 c4 c5 c6 c7 b1 b2 b3 b4 b5 hv hR h
 go_enter func148, ntmps148
 go_wp2_with fail
 go_region_held3 (fun ww => ww.cell? ⟨r, 0, none⟩ = some (.pointer (some ⟨d, 0, none⟩)) ∧ ww.cell? ⟨d, 8, none⟩ = some (.int .u8 p.fnd) ∧ ww.cell? ⟨d, 9, none⟩ = some (.int .u8 p.findC)) (exact qK) (first | (go_at_call 168; refine Calls.mono (HS.out _ qRd) ?_; rintro r1 w1 ⟨rfl, h1⟩; have hz1 := h1.size; (try simp at hz1); (try have ⟨hl1_0, hk1_0⟩ := qL d w1.heap.size); (try have ⟨hl1_1, hk1_1⟩ := qL r w1.heap.size)) | (go_at_call 183; refine Calls.mono (HG.out _) ?_; rintro r2 w2 ⟨rfl, h2⟩; have hz2 := h2.size; (try simp at hz2); (try have ⟨hl2_0, hk2_0⟩ := qL d w2.heap.size); (try have ⟨hl2_1, hk2_1⟩ := qL r w2.heap.size)) | (go_at_call 166; refine Calls.mono (HA.out _ qRd) ?_; rintro r3 w3 ⟨rfl, h3, u3⟩; have hz3 := u3.size; (try simp at hz3); have g0 := h3.bg.c0; have g8 := h3.dk.c8; have g9 := h3.dk.c9; rw [f1] at g8; rw [f2] at g9))
 exact qt15
theorem mWay_turned (r d : Nat) (p : Pg) (K1 : Int) (R : Int × Int × Bool) (w : World) (h : RdAt w r d p) (hn : p.n ≤ 99) (hb : p.behind ≤ 99) (hs : p.t.size ≤ 1000) (hv : p.verb = 0)
  (hR : R.2.2 = false → 0 ≤ R.1 ∧ R.1 ≤ p.t.size)
  (HT : qH 184 #[.agg #[.int .u8 p.fnd, .int .u8 p.findC]] (.agg #[.int .u8 K1, .int .u8 p.findC]))
  (HG : qH 183 #[.agg #[.int .u8 K1, .int .u8 p.findC], .agg #[.string p.t, .int .i64 (p.pl), .int .i64 (cnt p), .bool false, .bool false]] (.tuple #[.agg #[.int .i64 (wayX (R)), .int .i64 (wayK (R))], .bool (wayZ (R))])) :
  Calls Tryz.prog 148 #[.pointer (some ⟨r, 0, none⟩), .int .u8 44] w fun e w' =>
   e = .returned (.int .i64 (if R.2.2 = true then 4 else 1)) ∧ RdAt w' r d (arrEd p R) ∧ Upd [d] w w' := by
 have H := h
 have HS : Hid (∀ ww, RdAt ww r d p → qC 168 #[.pointer (some ⟨r, 0, none⟩)] ww (.agg #[.string p.t, .int .i64 (p.pl), .int .i64 (cnt p), .bool false, .bool false])) := by
  intro ww hh
  have := mStart r d p ww hh hn hb
  rw [hv] at this
  exact this
 have HA : Hid (∀ ww, RdAt ww r d p → Calls Tryz.prog 166 #[.pointer (some ⟨r, 0, none⟩), .agg #[.int .i64 (wayX R), .int .i64 (wayK R)], .bool (wayZ R)] ww fun e w' =>
   e = .returned (.int .i64 (if R.2.2 = true then 4 else 1)) ∧ RdAt w' r d (arrEd p R) ∧ Upd [d] ww w') := fun ww hh => mArrive r d p R ww hh hs hv hR
 have f1 : (arrEd p R).fnd = p.fnd := by unfold arrEd; split <;> rfl
 have f2 : (arrEd p R).findC = p.findC := by unfold arrEd; split <;> rfl
 generalize (if R.2.2 = true then (4 : Int) else 1) = O at *
 generalize arrEd p R = p2 at *
 generalize wayX R = X at *
 generalize wayK R = K at *
 generalize wayZ R = Z at *
 obtain ⟨c0, c1, c2, c3, c4, c5, c6, c7, c8, c9, fz, lt⟩ := h.dk
 obtain ⟨b0, b1, b2, b3, b4, b5, bz, bl⟩ := h.bg
 clear c0 c1 c2 c3 c4 c5 c6 c7 b1 b2 b3 b4 b5 hv hR h
 go_enter func148, ntmps148
 go_wp2_with fail
 refine Calls.mono (HT.out _) ?_
 rintro e w4 ⟨rfl, h4⟩
 exact qt55
theorem mComplete_gg (r d : Nat) (p : Pg) (R : Int × Int × Bool) (w : World) (h : RdAt w r d p) (hn : p.n ≤ 99) (hb : p.behind ≤ 99) (hs : p.t.size ≤ 1000) (hv : p.verb = 0) (hp : p.part = 103)
  (hR : R.2.2 = false → 0 ≤ R.1 ∧ R.1 ≤ p.t.size)
  (HG : qH 169 #[.int .u8 103, .agg #[.string p.t, .int .i64 (p.pl), .int .i64 (cnt p), .bool false, .bool false]] (.tuple #[.agg #[.int .i64 (wayX (R)), .int .i64 (wayK (R))], .bool (wayZ (R))])) :
  Calls Tryz.prog 145 #[.pointer (some ⟨r, 0, none⟩), .int .u8 103] w fun e w' =>
   e = .returned (.int .i64 (if R.2.2 = true then 4 else 1)) ∧ RdAt w' r d (arrEd p R) ∧ Upd [d] w w' := by
 have H := h
 have HS : Hid (∀ ww, RdAt ww r d p → qC 168 #[.pointer (some ⟨r, 0, none⟩)] ww (.agg #[.string p.t, .int .i64 (p.pl), .int .i64 (cnt p), .bool false, .bool false])) := by
  intro ww hh
  have := mStart r d p ww hh hn hb
  rw [hv] at this
  exact this
 have HA : Hid (∀ ww, RdAt ww r d p → Calls Tryz.prog 166 #[.pointer (some ⟨r, 0, none⟩), .agg #[.int .i64 (wayX R), .int .i64 (wayK R)], .bool (wayZ R)] ww fun e w' =>
   e = .returned (.int .i64 (if R.2.2 = true then 4 else 1)) ∧ RdAt w' r d (arrEd p R) ∧ Upd [d] ww w') := fun ww hh => mArrive r d p R ww hh hs hv hR
 generalize (if R.2.2 = true then (4 : Int) else 1) = O at *
 generalize arrEd p R = p2 at *
 generalize wayX R = X at *
 generalize wayK R = K at *
 generalize wayZ R = Z at *
 obtain ⟨b0, b1, b2, b3, b4, b5, bz, bl⟩ := h.bg
 rw [hp] at b5
 clear b1 b2 b3 b4 hv hR h hp
 go_enter func145, ntmps145
 exact qt55
theorem mComplete_g (r d : Nat) (p : Pg) (key : Int) (w : World) (h : RdAt w r d p) (hp : p.part = 103) (hk : ¬ key = 103) :
  qC 145 #[.pointer (some ⟨r, 0, none⟩), .int .u8 key] w (.int .i64 4) := by
 obtain ⟨b0, b1, b2, b3, b4, b5, bz, bl⟩ := h.bg
 rw [hp] at b5
 have hk' : (key == 103) = false := by simp [hk]
 clear b1 b2 b3 b4 h hp hk
 go_enter func145, ntmps145
 go_wp2
 exact qV (.int .i64 4) (by simp [results, results145, go_sem]) rfl
theorem mComplete_find (r d : Nat) (p : Pg) (key : Int) (R : Int × Int × Bool) (w : World) (h : RdAt w r d p) (hn : p.n ≤ 99) (hb : p.behind ≤ 99) (hs : p.t.size ≤ 1000) (hv : p.verb = 0) (hp : isFind p.part = true)
  (hR : R.2.2 = false → 0 ≤ R.1 ∧ R.1 ≤ p.t.size)
  (HG : qH 167 #[.agg #[.int .u8 p.part, .int .u8 key], .agg #[.string p.t, .int .i64 (p.pl), .int .i64 (cnt p), .bool false, .bool false]] (.tuple #[.agg #[.int .i64 (wayX (R)), .int .i64 (wayK (R))], .bool (wayZ (R))])) :
  Calls Tryz.prog 145 #[.pointer (some ⟨r, 0, none⟩), .int .u8 key] w fun e w' =>
   e = .returned (.int .i64 (if R.2.2 = true then 4 else 1)) ∧ RdAt w' r d (arrEd { p with fnd := p.part, findC := key } R) ∧ Upd [d] w w' := by
 have H0 := h
 have HP : Hid (∀ ww, RdAt ww r d p → RdAt ((ww.setCell ⟨d, 8, none⟩ (.int .u8 p.part)).setCell ⟨d, 9, none⟩ (.int .u8 key)) r d { p with fnd := p.part, findC := key }) := fun ww hh => (hh.set_fnd p.part).set_findC key
 have HS : Hid (∀ ww, RdAt ww r d { p with fnd := p.part, findC := key } → qC 168 #[.pointer (some ⟨r, 0, none⟩)] ww (.agg #[.string p.t, .int .i64 (p.pl), .int .i64 (cnt p), .bool false, .bool false])) := by
  intro ww hh
  have := mStart r d { p with fnd := p.part, findC := key } ww hh hn hb
  simp only [hv] at this
  exact this
 have HA : Hid (∀ ww, RdAt ww r d { p with fnd := p.part, findC := key } → Calls Tryz.prog 166 #[.pointer (some ⟨r, 0, none⟩), .agg #[.int .i64 (wayX R), .int .i64 (wayK R)], .bool (wayZ R)] ww fun e w' =>
   e = .returned (.int .i64 (if R.2.2 = true then 4 else 1)) ∧ RdAt w' r d (arrEd { p with fnd := p.part, findC := key } R) ∧ Upd [d] ww w') := fun ww hh => mArrive r d { p with fnd := p.part, findC := key } R ww hh hs hv hR
 have f1 : (arrEd { p with fnd := p.part, findC := key } R).fnd = p.part := by unfold arrEd; split <;> rfl
 have f2 : (arrEd { p with fnd := p.part, findC := key } R).findC = key := by unfold arrEd; split <;> rfl
 generalize (if R.2.2 = true then (4 : Int) else 1) = O at *
 generalize arrEd { p with fnd := p.part, findC := key } R = p2 at *
 generalize hp1 : ({ p with fnd := p.part, findC := key } : Pg) = p1 at *
 have f3 : p1.fnd = p.part := by rw [← hp1]
 have f4 : p1.findC = key := by rw [← hp1]
 clear hp1
 generalize wayX R = X at *
 generalize wayK R = K at *
 generalize wayZ R = Z at *
 obtain ⟨c0, c1, c2, c3, c4, c5, c6, c7, c8, c9, fz, lt⟩ := h.dk
 obtain ⟨b0, b1, b2, b3, b4, b5, bz, bl⟩ := h.bg
 clear c0 c1 c2 c3 c4 c5 c6 c7 b1 b2 b3 b4 hv hR h
 simp only [isFind, Bool.or_eq_true, beq_iff_eq] at hp
 generalize p.part = part at *
 generalize p.t = T at *
 generalize p.pl = PL at *
 generalize cnt p = N at *
 have nrd := H0.ne
 have nrd1 : ¬ r = d := nrd
 have nrd2 : ¬ d = r := Ne.symm nrd
 clear nrd
 rcases hp with ((hp | hp) | hp) | hp
 ·subst hp
  go_enter func145, ntmps145
  go_wp2_with fail
  go_region_held3 (fun ww => ww.cell? ⟨r, 0, none⟩ = some (.pointer (some ⟨d, 0, none⟩)) ∧ ww.cell? ⟨r, 5, none⟩ = some (.int .u8 102)) (exact qK) (fail)
  go_wp2_with fail
  go_region_held3 (fun ww => ww.cell? ⟨r, 0, none⟩ = some (.pointer (some ⟨d, 0, none⟩)) ∧ ww.cell? ⟨d, 8, none⟩ = some (.int .u8 102) ∧ ww.cell? ⟨d, 9, none⟩ = some (.int .u8 key)) (exact qK) (first | (go_at_call 168; refine Calls.mono (HS.out _ (by (repeat (with_reducible first | exact H0 | refine HP.out _ ?_ | refine RdAt.drewN ?_ _ | refine RdAt.drew ?_)))) ?_; rintro r1 w1 ⟨rfl, h1⟩; have hz1 := h1.size; (try simp at hz1); (try have ⟨hl1_0, hk1_0⟩ := qL d w1.heap.size); (try have ⟨hl1_1, hk1_1⟩ := qL r w1.heap.size)) | (go_at_call 167; refine Calls.mono (HG.out _) ?_; rintro r2 w2 ⟨rfl, h2⟩; have hz2 := h2.size; (try simp at hz2); (try have ⟨hl2_0, hk2_0⟩ := qL d w2.heap.size); (try have ⟨hl2_1, hk2_1⟩ := qL r w2.heap.size)) | (go_at_call 166; refine Calls.mono (HA.out _ (by (repeat (with_reducible first | exact H0 | refine HP.out _ ?_ | refine RdAt.drewN ?_ _ | refine RdAt.drew ?_ | refine RdAt.below ?_ h2 | refine RdAt.below ?_ h1)))) ?_; rintro r3 w3 ⟨rfl, h3, u3⟩; have hz3 := u3.size; (try simp at hz3); have g0 := h3.bg.c0; have g8 := h3.dk.c8; have g9 := h3.dk.c9; rw [f1] at g8; rw [f2] at g9))
  exact qt15
 ·subst hp
  go_enter func145, ntmps145
  go_wp2_with fail
  go_region_held3 (fun ww => ww.cell? ⟨r, 0, none⟩ = some (.pointer (some ⟨d, 0, none⟩)) ∧ ww.cell? ⟨r, 5, none⟩ = some (.int .u8 116)) (exact qK) (fail)
  go_wp2_with fail
  go_region_held3 (fun ww => ww.cell? ⟨r, 0, none⟩ = some (.pointer (some ⟨d, 0, none⟩)) ∧ ww.cell? ⟨d, 8, none⟩ = some (.int .u8 116) ∧ ww.cell? ⟨d, 9, none⟩ = some (.int .u8 key)) (exact qK) (first | (go_at_call 168; refine Calls.mono (HS.out _ (by (repeat (with_reducible first | exact H0 | refine HP.out _ ?_ | refine RdAt.drewN ?_ _ | refine RdAt.drew ?_)))) ?_; rintro r1 w1 ⟨rfl, h1⟩; have hz1 := h1.size; (try simp at hz1); (try have ⟨hl1_0, hk1_0⟩ := qL d w1.heap.size); (try have ⟨hl1_1, hk1_1⟩ := qL r w1.heap.size)) | (go_at_call 167; refine Calls.mono (HG.out _) ?_; rintro r2 w2 ⟨rfl, h2⟩; have hz2 := h2.size; (try simp at hz2); (try have ⟨hl2_0, hk2_0⟩ := qL d w2.heap.size); (try have ⟨hl2_1, hk2_1⟩ := qL r w2.heap.size)) | (go_at_call 166; refine Calls.mono (HA.out _ (by (repeat (with_reducible first | exact H0 | refine HP.out _ ?_ | refine RdAt.drewN ?_ _ | refine RdAt.drew ?_ | refine RdAt.below ?_ h2 | refine RdAt.below ?_ h1)))) ?_; rintro r3 w3 ⟨rfl, h3, u3⟩; have hz3 := u3.size; (try simp at hz3); have g0 := h3.bg.c0; have g8 := h3.dk.c8; have g9 := h3.dk.c9; rw [f1] at g8; rw [f2] at g9))
  exact qt15
 ·subst hp
  go_enter func145, ntmps145
  go_wp2_with fail
  go_region_held3 (fun ww => ww.cell? ⟨r, 0, none⟩ = some (.pointer (some ⟨d, 0, none⟩)) ∧ ww.cell? ⟨r, 5, none⟩ = some (.int .u8 70)) (exact qK) (fail)
  go_wp2_with fail
  go_region_held3 (fun ww => ww.cell? ⟨r, 0, none⟩ = some (.pointer (some ⟨d, 0, none⟩)) ∧ ww.cell? ⟨d, 8, none⟩ = some (.int .u8 70) ∧ ww.cell? ⟨d, 9, none⟩ = some (.int .u8 key)) (exact qK) (first | (go_at_call 168; refine Calls.mono (HS.out _ (by (repeat (with_reducible first | exact H0 | refine HP.out _ ?_ | refine RdAt.drewN ?_ _ | refine RdAt.drew ?_)))) ?_; rintro r1 w1 ⟨rfl, h1⟩; have hz1 := h1.size; (try simp at hz1); (try have ⟨hl1_0, hk1_0⟩ := qL d w1.heap.size); (try have ⟨hl1_1, hk1_1⟩ := qL r w1.heap.size)) | (go_at_call 167; refine Calls.mono (HG.out _) ?_; rintro r2 w2 ⟨rfl, h2⟩; have hz2 := h2.size; (try simp at hz2); (try have ⟨hl2_0, hk2_0⟩ := qL d w2.heap.size); (try have ⟨hl2_1, hk2_1⟩ := qL r w2.heap.size)) | (go_at_call 166; refine Calls.mono (HA.out _ (by (repeat (with_reducible first | exact H0 | refine HP.out _ ?_ | refine RdAt.drewN ?_ _ | refine RdAt.drew ?_ | refine RdAt.below ?_ h2 | refine RdAt.below ?_ h1)))) ?_; rintro r3 w3 ⟨rfl, h3, u3⟩; have hz3 := u3.size; (try simp at hz3); have g0 := h3.bg.c0; have g8 := h3.dk.c8; have g9 := h3.dk.c9; rw [f1] at g8; rw [f2] at g9))
  exact qt15
 ·subst hp
  go_enter func145, ntmps145
  go_wp2_with fail
  go_region_held3 (fun ww => ww.cell? ⟨r, 0, none⟩ = some (.pointer (some ⟨d, 0, none⟩)) ∧ ww.cell? ⟨r, 5, none⟩ = some (.int .u8 84)) (exact qK) (fail)
  go_wp2_with fail
  go_region_held3 (fun ww => ww.cell? ⟨r, 0, none⟩ = some (.pointer (some ⟨d, 0, none⟩)) ∧ ww.cell? ⟨d, 8, none⟩ = some (.int .u8 84) ∧ ww.cell? ⟨d, 9, none⟩ = some (.int .u8 key)) (exact qK) (first | (go_at_call 168; refine Calls.mono (HS.out _ (by (repeat (with_reducible first | exact H0 | refine HP.out _ ?_ | refine RdAt.drewN ?_ _ | refine RdAt.drew ?_)))) ?_; rintro r1 w1 ⟨rfl, h1⟩; have hz1 := h1.size; (try simp at hz1); (try have ⟨hl1_0, hk1_0⟩ := qL d w1.heap.size); (try have ⟨hl1_1, hk1_1⟩ := qL r w1.heap.size)) | (go_at_call 167; refine Calls.mono (HG.out _) ?_; rintro r2 w2 ⟨rfl, h2⟩; have hz2 := h2.size; (try simp at hz2); (try have ⟨hl2_0, hk2_0⟩ := qL d w2.heap.size); (try have ⟨hl2_1, hk2_1⟩ := qL r w2.heap.size)) | (go_at_call 166; refine Calls.mono (HA.out _ (by (repeat (with_reducible first | exact H0 | refine HP.out _ ?_ | refine RdAt.drewN ?_ _ | refine RdAt.drew ?_ | refine RdAt.below ?_ h2 | refine RdAt.below ?_ h1)))) ?_; rintro r3 w3 ⟨rfl, h3, u3⟩; have hz3 := u3.size; (try simp at hz3); have g0 := h3.bg.c0; have g8 := h3.dk.c8; have g9 := h3.dk.c9; rw [f1] at g8; rw [f2] at g9))
  exact qt15
abbrev GivesR (f : Nat) (args : Array Value) (r d : Nat) (p p2 : Pg) (O : Int) : Prop :=
 Hid (∀ ww, RdAt ww r d p → Calls Tryz.prog f args ww fun e w' => e = .returned (.int .i64 O) ∧ RdAt w' r d p2 ∧ Upd [r, d] ww w')
theorem GivesR.of_d {f : Nat} {args : Array Value} {r d : Nat} {p p2 : Pg} {O : Int} (h : ∀ ww, RdAt ww r d p → Calls Tryz.prog f args ww fun e w' => e = .returned (.int .i64 O) ∧ RdAt w' r d p2 ∧ Upd [d] ww w') : GivesR f args r d p p2 O :=
 fun ww hh => Calls.mono (h ww hh) (fun _ _ ⟨a, b, c⟩ => ⟨a, b, c.mono qi⟩)
theorem GivesR.of_below {f : Nat} {args : Array Value} {r d : Nat} {p : Pg} {O : Int} (h : ∀ ww, RdAt ww r d p → qC f args ww (.int .i64 O)) : GivesR f args r d p p O :=
 fun ww hh => Calls.mono (h ww hh) (fun _ _ ⟨a, b⟩ => ⟨a, hh.below b, Upd.of_below b⟩)
def kCmd : List Int := [34, 100, 99, 121, 62, 60, 114, 118, 86, 120, 88, 68, 67, 115, 83, 89, 105, 97, 73, 65, 111, 79, 112, 80, 126, 74, 117, 18, 46]
theorem mCommand_way (r d : Nat) (p p2 : Pg) (key O : Int) (w : World) (h : RdAt w r d p) (hk : ∀ c, c ∈ kCmd → ¬ key = c)
  (HC : GivesR 148 #[.pointer (some ⟨r, 0, none⟩), .int .u8 key] r d p p2 O) :
  Calls Tryz.prog 141 #[.agg #[.pointer (some ⟨r, 0, none⟩)], .int .u8 key] w fun e w' => e = .returned (.int .i64 O) ∧ RdAt w' r d p2 ∧ Upd [r, d] w w' := by
 have H := h
 have k34 : (key == 34) = false := by simp [hk 34 qd]
 have k100 : (key == 100) = false := by simp [hk 100 qd]
 have k99 : (key == 99) = false := by simp [hk 99 qd]
 have k121 : (key == 121) = false := by simp [hk 121 qd]
 have k62 : (key == 62) = false := by simp [hk 62 qd]
 have k60 : (key == 60) = false := by simp [hk 60 qd]
 have k114 : (key == 114) = false := by simp [hk 114 qd]
 have k118 : (key == 118) = false := by simp [hk 118 qd]
 have k86 : (key == 86) = false := by simp [hk 86 qd]
 have k120 : (key == 120) = false := by simp [hk 120 qd]
 have k88 : (key == 88) = false := by simp [hk 88 qd]
 have k68 : (key == 68) = false := by simp [hk 68 qd]
 have k67 : (key == 67) = false := by simp [hk 67 qd]
 have k115 : (key == 115) = false := by simp [hk 115 qd]
 have k83 : (key == 83) = false := by simp [hk 83 qd]
 have k89 : (key == 89) = false := by simp [hk 89 qd]
 have k105 : (key == 105) = false := by simp [hk 105 qd]
 have k97 : (key == 97) = false := by simp [hk 97 qd]
 have k73 : (key == 73) = false := by simp [hk 73 qd]
 have k65 : (key == 65) = false := by simp [hk 65 qd]
 have k111 : (key == 111) = false := by simp [hk 111 qd]
 have k79 : (key == 79) = false := by simp [hk 79 qd]
 have k112 : (key == 112) = false := by simp [hk 112 qd]
 have k80 : (key == 80) = false := by simp [hk 80 qd]
 have k126 : (key == 126) = false := by simp [hk 126 qd]
 have k74 : (key == 74) = false := by simp [hk 74 qd]
 have k117 : (key == 117) = false := by simp [hk 117 qd]
 have k18 : (key == 18) = false := by simp [hk 18 qd]
 have k46 : (key == 46) = false := by simp [hk 46 qd]
 clear hk h
 go_enter func141, ntmps141
 go_wp2_with fail
 refine Calls.mono (HC.out _ qRd) ?_
 rintro e w1 ⟨rfl, h1, u1⟩
 exact qt15
theorem qt72 {P : Prop} (h : P := by
  go_wp2_with fail
  refine Calls.mono (HM.out _ qRd) ?_
  rintro e w1 ⟨rfl, h1, u1⟩
  exact qt15
 ) : P := h
theorem mCommand_mark (r d : Nat) (p : Pg) (key : Int) (w : World) (h : RdAt w r d p) (hk : key = 118 ∨ key = 86) :
  Calls Tryz.prog 141 #[.agg #[.pointer (some ⟨r, 0, none⟩)], .int .u8 key] w fun e w' => e = .returned (.int .i64 1) ∧ RdAt w' r d { p with mode := if key = 86 then 3 else 2, anchor := p.pl } ∧ Upd [r, d] w w' := by
 have H := h
 have b0 := h.bg.c0
 have bl := h.bg.lt
 have l1 : r < w.heap.size + 1 := by omega
 rcases hk with hk | hk
 ·have HM : Hid (∀ ww, RdAt ww r d p → Calls Tryz.prog 150 #[.pointer (some ⟨d, 0, none⟩), .int .i64 2] ww fun e w' => e = .returned (.tuple #[]) ∧ RdAt w' r d { p with mode := 2, anchor := p.pl } ∧ Upd [d] ww w') := fun ww hh => mMark r d p 2 ww hh
  subst hk
  rw [if_neg qd]
  generalize hp2 : ({ p with mode := 2, anchor := p.pl } : Pg) = p2 at *
  clear hp2 h
  go_enter func141, ntmps141
  exact qt72
 ·have HM : Hid (∀ ww, RdAt ww r d p → Calls Tryz.prog 150 #[.pointer (some ⟨d, 0, none⟩), .int .i64 3] ww fun e w' => e = .returned (.tuple #[]) ∧ RdAt w' r d { p with mode := 3, anchor := p.pl } ∧ Upd [d] ww w') := fun ww hh => mMark r d p 3 ww hh
  subst hk
  rw [if_pos rfl]
  generalize hp2 : ({ p with mode := 3, anchor := p.pl } : Pg) = p2 at *
  clear hp2 h
  go_enter func141, ntmps141
  exact qt72
theorem bTake_normal_esc (b r d : Nat) (tv : Value) (dg : ByteArray) (p : Pg) (w : World) (hb : BdAt w b r d tv dg) (h : RdAt w r d p) (hm : p.mode = 0) :
  Calls Tryz.prog 46 #[.pointer (some ⟨b, 0, none⟩), .int .u8 27] w fun e w' => e = .returned (.int .i64 1) ∧ RdAt w' r d { p.none' with mode := 0, anchor := 0 } ∧ Upd [r, d] w w' := by
 have HO : Hid (∀ ww, BdAt ww b r d tv dg → RdAt ww r d p → qC 64 #[.pointer (some ⟨b, 0, none⟩)] ww (.iface 77 (.agg #[.pointer (some ⟨r, 0, none⟩)]))) := fun ww h1 h2 => mOn_normal b r d tv dg p ww h1 h2 hm
 have HE : Hid (∀ ww, RdAt ww r d p → Calls Tryz.prog 135 #[.pointer (some ⟨r, 0, none⟩)] ww fun e w' => e = .returned (.int .i64 1) ∧ RdAt w' r d { p.none' with mode := 0, anchor := 0 } ∧ Upd [r, d] ww w') := fun ww hh => mEscape r d p ww hh
 generalize hp2 : ({ p.none' with mode := 0, anchor := 0 } : Pg) = p2 at *
 have H := h
 have hmt := meth_normal_escape ⟨r, 0, none⟩
 clear hm h hp2
 go_enter func46, ntmps46
 go_wp2_with fail
 refine Calls.mono (HO.out _ hb H) ?_
 rintro e w1 ⟨rfl, h1⟩
 go_wp2_with fail
 refine Calls.mono (HE.out _ qRd) ?_
 rintro e w2 ⟨rfl, h2, u2⟩
 exact qt15
theorem bTake_marking_esc (b r d : Nat) (tv : Value) (dg : ByteArray) (p : Pg) (w : World) (hb : BdAt w b r d tv dg) (h : RdAt w r d p) (hm : p.mode = 2 ∨ p.mode = 3) :
  Calls Tryz.prog 46 #[.pointer (some ⟨b, 0, none⟩), .int .u8 27] w fun e w' => e = .returned (.int .i64 1) ∧ RdAt w' r d { p.none' with mode := 0, anchor := 0 } ∧ Upd [r, d] w w' := by
 have HO : Hid (∀ ww, BdAt ww b r d tv dg → RdAt ww r d p → qC 64 #[.pointer (some ⟨b, 0, none⟩)] ww (.iface 81 (.agg #[.pointer (some ⟨r, 0, none⟩)]))) := fun ww h1 h2 => mOn_marking b r d tv dg p ww h1 h2 hm
 have HE : Hid (∀ ww, RdAt ww r d p → Calls Tryz.prog 135 #[.pointer (some ⟨r, 0, none⟩)] ww fun e w' => e = .returned (.int .i64 1) ∧ RdAt w' r d { p.none' with mode := 0, anchor := 0 } ∧ Upd [r, d] ww w') := fun ww hh => mEscape r d p ww hh
 generalize hp2 : ({ p.none' with mode := 0, anchor := 0 } : Pg) = p2 at *
 have H := h
 have hmt := meth_marking_escape ⟨r, 0, none⟩
 clear hm h hp2
 go_enter func46, ntmps46
 go_wp2_with fail
 refine Calls.mono (HO.out _ hb H) ?_
 rintro e w1 ⟨rfl, h1⟩
 go_wp2_with fail
 refine Calls.mono (HE.out _ qRd) ?_
 rintro e w2 ⟨rfl, h2, u2⟩
 exact qt15
theorem infoU8 : (Tryz.prog.info? 5).map (fun i => (i.zero, i.size, i.bytes)) = some (some (.int .u8 0), 1, 1) := by kernel_rfl
def own (v : Value) : List Nat := v.ownBlock.toList
theorem ownsRow_base {w : World} {a c e s : Nat} {v : Value} {n : Nat} {xs : List Value} (h : w.ownsRow a e s v n xs) (hc : c ≤ a) : w.ownsRow c e s v n xs := by
 refine ⟨h.1, ?_⟩
 rcases h.2 with h2 | ⟨g, cap, cur, h1, h2, h3⟩
 ·exact Or.inl h2
 ·exact Or.inr ⟨g, cap, cur, h1, Nat.le_trans hc h2, h3⟩
theorem ownsRow_upd {S : List Nat} {w w' : World} {e s : Nat} {v : Value} {n : Nat} {xs : List Value} {a : Nat} (h : w.ownsRow a e s v n xs) (hu : Upd S w w') (hn : ∀ k, k ∈ S → v.ownBlock ≠ some k) : w'.ownsRow a e s v n xs := by
 refine ⟨h.1, ?_⟩
 rcases h.2 with h2 | ⟨g, cap, cur, h1, h2, h3, h4⟩
 ·exact Or.inl h2
 ·refine Or.inr ⟨g, cap, cur, h1, h2, ?_, h4⟩
  rw [hu.block g (Array.getElem?_eq_some_iff.1 h3).1 (fun hk => hn g hk (by rw [h1]; rfl))]
  exact h3
theorem owned_some {w : World} {a e s : Nat} {v : Value} {n : Nat} {xs : List Value} (h : w.ownsRow a e s v n xs) (hn : 0 < n) : ∃ g cap, v = .slice (some ⟨g, 0, none⟩) n cap ∧ a ≤ g := by
 rcases h.2 with ⟨_, h2⟩ | ⟨g, cap, cur, h1, h2, _⟩
 ·omega
 ·exact ⟨g, cap, h1, h2⟩
theorem qt29 {P : Prop} (h : P := by
  go_enter func47, ntmps47
  go_wp2_with (first
   | (at_builtin; refine wpList_append_grows _ rfl (.tmp 24) (.tmp 26) 48 rfl 5 i0 (.int .u8 0) 1 1 underlying48 hi hz0 hz1 hz2 rfl qd ao n cap xs rfl hnone HL.out (HO.out _) ⟨w.heap.size, 0, none⟩ 1 1 [.int .u8 key] rfl rfl HN.out (by intro u hu; simp at hu; subst hu; rfl) hc qm qo ?_; intro tv' w1 hown hgrow; obtain ⟨g, cp, rfl, hg⟩ := owned_some hown qo; have U1 : Upd [] (w.alloc (.cells #[.int .u8 key] 5)) w1 := ⟨hgrow.os, hgrow.tape, hgrow.output, hgrow.size, fun k hk _ => hgrow.block k hk qi⟩; have B1 := (HB.alloc (.cells #[.int .u8 key] 5)).upd U1 qi; have e1 := B1.c1; have ez := B1.fz; have hown' : Hid _ := hown; clear hown hgrow hg)
   | fail)
  go_end0
  have hq := ownsRow_setCell_below hown'.out (a := ⟨b, 1, none⟩) qs (.slice (some ⟨g, 0, none⟩) (n + 1) cp)
  rw [show (w.alloc (.cells #[.int .u8 key] 5)).heap.size = w.heap.size + 1 by simp] at hq
  refine ⟨rfl, _, B1.set_tv _, hq, ?_⟩
  refine Upd.setCell (Upd.trans (Upd.alloc (Upd.refl _ _) _) (U1.mono qi)) (Or.inl qi) _
 ) : P := h
theorem mKeep_grow (b r d : Nat) (tv : Value) (dg : ByteArray) (key : Int) (ao : Option Addr) (n cap : Nat) (xs : List Value) (w : World) (hb : BdAt w b r d tv dg) (htv : tv = .slice ao n cap) (hnone : ao = none → n = 0 ∧ cap = 0) (hsome : ∀ a, ao = some a → ∃ g, a = ⟨g, 0, none⟩)
  (ho : w.ownsRow 0 5 1 tv n xs) (hc : cap < n + 1) (hn : n ≤ 17592186044416) :
  Calls Tryz.prog 47 #[.pointer (some ⟨b, 1, none⟩), .int .u8 key, .int .i64 0] w fun e w' => e = .returned (.tuple #[]) ∧ ∃ tv', BdAt w' b r d tv' dg ∧ w'.ownsRow (w.heap.size + 1) 5 1 tv' (n + 1) (xs ++ [.int .u8 key]) ∧ Upd [b] w w' := by
 have HB := hb
 obtain ⟨b0, b1, b2, b3, b4, b5, bz, bl⟩ := hb
 subst htv
 obtain ⟨i0, hi, hz0, hz1, hz2⟩ := info_parts infoU8
 have HL : Hid (xs.length = n * 1) := ho.1
 have HO : Hid (∀ o : Obj, ∀ a, ao = some a → ∀ j u, xs[j]? = some u → (w.alloc o).cell? (a.add j) = some u) := by
  intro o a ha j u hu
  obtain ⟨g, rfl⟩ := hsome a ha
  subst ha
  exact (ho.alloc o).cells (g := g) rfl j u hu
 have HN : Hid (∀ j u, [Value.int .u8 key][j]? = some u → (w.alloc (.cells #[.int .u8 key] 5)).cell? ((⟨w.heap.size, 0, none⟩ : Addr).add j) = some u) := by
  intro j u hj
  match j, hj with
  | 0, hj => simp at hj; subst hj; simp [Addr.add]
 clear ho hsome
 exact qt29
theorem qt33 {P : Prop} (h : P := by
  go_enter func47, ntmps47
  go_wp2_with (first
   | (at_builtin; refine wpList_append_fits _ rfl (.tmp 24) (.tmp 26) 48 rfl 0 5 i0 1 underlying48 hi hz1 g n cap xs rfl (HO.out _) ⟨w.heap.size, 0, none⟩ 1 1 [.int .u8 key] rfl rfl HN.out (by intro u hu; simp at hu; subst hu; rfl) hc ?_; intro w1 hown hgrow; have U1 : Upd [g] (w.alloc (.cells #[.int .u8 key] 5)) w1 := ⟨hgrow.os, hgrow.tape, hgrow.output, hgrow.size, fun k hk hk2 => hgrow.block k hk (by simp at hk2; simp [hk2])⟩; have B1 := (HB.alloc (.cells #[.int .u8 key] 5)).upd U1 (by simp; exact fun e => hgb e.symm); have e1 := B1.c1; have ez := B1.fz; have hown' : Hid _ := hown; clear hown hgrow)
   | fail)
  go_end0
  refine ⟨rfl, B1.set_tv _, ?_, ?_⟩
  ·refine ownsRow_upd hown'.out (Upd.setCell (Upd.refl [b] _) (Or.inl qi) _) ?_
   intro k hk
   simp at hk
   subst hk
   simp [Value.ownBlock, hgb]
  ·refine Upd.setCell (Upd.trans (Upd.alloc (Upd.refl _ _) _) (U1.mono qi)) (Or.inl qi) _
 ) : P := h
theorem mKeep_room (b r d g : Nat) (dg : ByteArray) (key : Int) (n cap : Nat) (xs : List Value) (w : World) (hb : BdAt w b r d (.slice (some ⟨g, 0, none⟩) n cap) dg) (hgb : g ≠ b)
  (ho : w.ownsRow 0 5 1 (.slice (some ⟨g, 0, none⟩) n cap) n xs) (hc : n + 1 ≤ cap) (hn : n ≤ 17592186044416) :
  Calls Tryz.prog 47 #[.pointer (some ⟨b, 1, none⟩), .int .u8 key, .int .i64 0] w fun e w' => e = .returned (.tuple #[]) ∧ BdAt w' b r d (.slice (some ⟨g, 0, none⟩) (n + 1) cap) dg ∧ w'.ownsRow 0 5 1 (.slice (some ⟨g, 0, none⟩) (n + 1) cap) (n + 1) (xs ++ [.int .u8 key]) ∧ Upd [b, g] w w' := by
 have HB := hb
 obtain ⟨b0, b1, b2, b3, b4, b5, bz, bl⟩ := hb
 obtain ⟨i0, hi, hz0, hz1, hz2⟩ := info_parts infoU8
 have HO : Hid (∀ o : Obj, (w.alloc o).ownsRow 0 5 1 (.slice (some ⟨g, 0, none⟩) n cap) n xs) := fun o => ho.alloc o
 have HN : Hid (∀ j u, [Value.int .u8 key][j]? = some u → (w.alloc (.cells #[.int .u8 key] 5)).cell? ((⟨w.heap.size, 0, none⟩ : Addr).add j) = some u) := by
  intro j u hj
  match j, hj with
  | 0, hj => simp at hj; subst hj; simp [Addr.add]
 clear ho
 exact qt33
theorem mKeep_normal (b r d : Nat) (tv : Value) (dg : ByteArray) (key : Int) (n : Nat) (xs : List Value) (w : World) (hb : BdAt w b r d tv dg) (hne : tv.ownBlock ≠ some b)
  (ho : w.ownsRow 0 5 1 tv n xs) (hn : n ≤ 17592186044416) :
  Calls Tryz.prog 47 #[.pointer (some ⟨b, 1, none⟩), .int .u8 key, .int .i64 0] w fun e w' => e = .returned (.tuple #[]) ∧ ∃ tv', BdAt w' b r d tv' dg ∧ w'.ownsRow 0 5 1 tv' (n + 1) (xs ++ [.int .u8 key]) ∧ (tv'.ownBlock = tv.ownBlock ∨ ∃ g, tv'.ownBlock = some g ∧ w.heap.size ≤ g) ∧ Upd (b :: own tv) w w' := by
 rcases ho.2 with ⟨rfl, rfl⟩ | ⟨g, cap, cur, rfl, h1, h2, h3, h4⟩
 ·refine Calls.mono (mKeep_grow b r d _ dg key none 0 0 xs w hb rfl (fun _ => ⟨rfl, rfl⟩) (fun a h => by cases h) ho qo hn) ?_
  rintro e w' ⟨rfl, tv', hB, hO, hU⟩
  obtain ⟨g, cp, rfl, hg⟩ := owned_some hO qo
  exact ⟨rfl, _, hB, ownsRow_base hO (Nat.zero_le _), Or.inr ⟨g, rfl, by omega⟩, hU.mono qi⟩
 ·by_cases hc : n + 1 ≤ cap
  ·have hgb : g ≠ b := fun e => hne (by rw [e]; rfl)
   refine Calls.mono (mKeep_room b r d g dg key n cap xs w hb hgb ho hc hn) ?_
   rintro e w' ⟨rfl, hB, hO, hU⟩
   exact ⟨rfl, _, hB, hO, Or.inl rfl, hU.mono (by simp [own, Value.ownBlock])⟩
  ·refine Calls.mono (mKeep_grow b r d _ dg key (some ⟨g, 0, none⟩) n cap xs w hb rfl (fun h => by cases h) (fun a h => ⟨g, by simpa using h.symm⟩) ho qo hn) ?_
   rintro e w' ⟨rfl, tv', hB, hO, hU⟩
   obtain ⟨g', cp, rfl, hg⟩ := owned_some hO qo
   exact ⟨rfl, _, hB, ownsRow_base hO (Nat.zero_le _), Or.inr ⟨g', rfl, by omega⟩, hU.mono qi⟩
theorem mKeep_not (b r d : Nat) (tv : Value) (dg : ByteArray) (key mode : Int) (w : World) (hb : BdAt w b r d tv dg) (hm : mode = 2 ∨ mode = 3) :
  qC 47 #[.pointer (some ⟨b, 1, none⟩), .int .u8 key, .int .i64 mode] w (.tuple #[]) := by
 obtain ⟨b0, b1, b2, b3, b4, b5, bz, bl⟩ := hb
 rcases hm with hm | hm
 all_goals
  subst hm
  go_enter func47, ntmps47
  go_wp2
  go_end0
  exact ⟨rfl, Below.refl _ _⟩
theorem mEnd (b r d : Nat) (tv : Value) (dg : ByteArray) (O : Int) (w : World) (hb : BdAt w b r d tv dg) (hO : ¬ O = 2) :
  Calls Tryz.prog 48 #[.pointer (some ⟨b, 1, none⟩), .int .i64 O] w fun e w' => e = .returned (.tuple #[]) ∧ BdAt w' b r d (.slice none 0 0) dg ∧ Upd [b] w w' := by
 have HS := hb.set_tv (.slice none 0 0)
 obtain ⟨b0, b1, b2, b3, b4, b5, bz, bl⟩ := hb
 have hO' : (O == 2) = false := by simp [hO]
 clear hO
 go_enter func48, ntmps48
 go_wp2
 go_end0
 refine ⟨rfl, HS, ?_⟩
 repeat exact qU
theorem hKeep_same (r d : Nat) (p : Pg) (w : World) (h : RdAt w r d p) (hn : p.now = p.t) :
  qC 49 #[.pointer (some ⟨d, 5, none⟩), .string p.t] w (.tuple #[]) := by
 obtain ⟨c0, c1, c2, c3, c4, c5, c6, c7, c8, c9, fz, lt⟩ := h.dk
 rw [hn] at c5
 clear c0 c1 c2 c3 c4 c6 c7 c8 c9 h hn
 go_enter func49, ntmps49
 go_wp2
 first | go_end0 | refine bodyPost_ret (results_none rfl _ _ _) rfl ?_
 exact ⟨rfl, Below.refl _ _⟩
structure NbAt (w : World) (b r d : Nat) (p : Pg) (tv : Value) (n : Nat) (dg : ByteArray) : Prop where
 bd : BdAt w b r d tv dg
 rd : RdAt w r d p
 ow : ∃ xs, w.ownsRow 0 5 1 tv n xs
 br : b ≠ r
 bd' : b ≠ d
 tb : tv.ownBlock ≠ some b
 tr : tv.ownBlock ≠ some r
 td : tv.ownBlock ≠ some d
theorem mem_own {tv : Value} {k : Nat} : k ∈ own tv ↔ tv.ownBlock = some k := by
 unfold own
 cases tv.ownBlock <;> simp [eq_comm]
theorem mTake_digit (r d : Nat) (p : Pg) (key : Int) (w : World) (h : RdAt w r d p) (hp : p.part = 0) (hv : p.verb = 0) (hn : p.n ≤ 99) (hd : isD p.n key = true) :
  Calls Tryz.prog 137 #[.agg #[.pointer (some ⟨r, 0, none⟩)], .int .u8 key] w fun e w' => e = .returned (.int .i64 0) ∧ RdAt w' r d { p with n := nextN p.n key } ∧ Upd [r, d] w w' := by
 have H := h
 have HD : Hid (∀ ww, RdAt ww r d p → Calls Tryz.prog 139 #[.pointer (some ⟨r, 1, none⟩), .int .u8 key] ww fun e w' => e = .returned (.bool true) ∧ RdAt w' r d { p with n := nextN p.n key } ∧ Upd [r] ww w') := fun ww hh => mDigit_yes r d p key ww hh hv hn hd
 obtain ⟨b0, b1, b2, b3, b4, b5, bz, bl⟩ := h.bg
 rw [hp] at b5
 clear b1 b2 b3 b4 h
 have l1 : r < w.heap.size + 1 := by omega
 generalize hp2 : ({ p with n := nextN p.n key } : Pg) = p2 at *
 clear hp2 hp hv hn hd
 go_enter func137, ntmps137
 go_wp2_with fail
 refine Calls.mono (HD.out _ qRd) ?_
 rintro e w1 ⟨rfl, h1, u1⟩
 exact qt15
theorem mTurn (r d : Nat) (p : Pg) (mode : Int) (w : World) (h : RdAt w r d p) :
  Calls Tryz.prog 312 #[.agg #[.pointer (some ⟨r, 0, none⟩)], .int .i64 mode] w fun e w' => e = .returned (.int .i64 1) ∧ RdAt w' r d (if p.mode = mode then { p with mode := 0, anchor := 0 } else { p with mode := mode }) ∧ Upd [r, d] w w' := by
 have H := h
 have b0 := h.bg.c0
 have bl := h.bg.lt
 have c3 := h.dk.c3
 have dl := h.dk.lt
 have fz := h.dk.fz
 have l1 : r < w.heap.size + 1 := by omega
 have l2 : d < w.heap.size + 1 := by omega
 by_cases hm : p.mode = mode
 ·have HM : Hid (∀ ww, RdAt ww r d p → Calls Tryz.prog 136 #[.pointer (some ⟨d, 0, none⟩)] ww fun e w' => e = .returned (.tuple #[]) ∧ RdAt w' r d { p with mode := 0, anchor := 0 } ∧ Upd [d] ww w') := fun ww hh => mToNormal r d p ww hh
  rw [if_pos hm]
  rw [hm] at c3
  generalize hp2 : ({ p with mode := 0, anchor := 0 } : Pg) = p2 at *
  clear hp2 h hm
  go_enter func312, ntmps312
  exact qt72
 ·have HS : Hid (∀ ww, RdAt ww r d p → RdAt (ww.setCell ⟨d, 3, none⟩ (.int .i64 mode)) r d { p with mode := mode }) := fun ww hh => hh.set_mode mode
  rw [if_neg hm]
  have hm' : (p.mode == mode) = false := by simp [hm]
  generalize hp2 : ({ p with mode := mode } : Pg) = p2 at *
  clear hp2 h hm
  go_enter func312, ntmps312
  go_wp2
  go_ret
  refine ⟨rfl, ?_, ?_⟩
  ·(repeat (with_reducible first | exact H | refine HS.out _ ?_ | refine RdAt.alloc ?_ _ | refine RdAt.drewN ?_ _ | refine RdAt.drew ?_))
  ·repeat exact qU
def kMrk : List Int := [34, 105, 97, 111, 118, 86, 120, 115, 100, 99, 121, 62, 60, 117, 85]
theorem mMCommand_way (r d : Nat) (p p2 : Pg) (key O : Int) (w : World) (h : RdAt w r d p) (hk : ∀ c, c ∈ kMrk → ¬ key = c)
  (HC : GivesR 148 #[.pointer (some ⟨r, 0, none⟩), .int .u8 key] r d p p2 O) :
  Calls Tryz.prog 310 #[.agg #[.pointer (some ⟨r, 0, none⟩)], .int .u8 key] w fun e w' => e = .returned (.int .i64 O) ∧ RdAt w' r d p2 ∧ Upd [r, d] w w' := by
 have H := h
 have k34 : (key == 34) = false := by simp [hk 34 qd]
 have k105 : (key == 105) = false := by simp [hk 105 qd]
 have k97 : (key == 97) = false := by simp [hk 97 qd]
 have k111 : (key == 111) = false := by simp [hk 111 qd]
 have k118 : (key == 118) = false := by simp [hk 118 qd]
 have k86 : (key == 86) = false := by simp [hk 86 qd]
 have k120 : (key == 120) = false := by simp [hk 120 qd]
 have k115 : (key == 115) = false := by simp [hk 115 qd]
 have k100 : (key == 100) = false := by simp [hk 100 qd]
 have k99 : (key == 99) = false := by simp [hk 99 qd]
 have k121 : (key == 121) = false := by simp [hk 121 qd]
 have k62 : (key == 62) = false := by simp [hk 62 qd]
 have k60 : (key == 60) = false := by simp [hk 60 qd]
 have k117 : (key == 117) = false := by simp [hk 117 qd]
 have k85 : (key == 85) = false := by simp [hk 85 qd]
 clear hk h
 go_enter func310, ntmps310
 go_wp2_with fail
 refine Calls.mono (HC.out _ qRd) ?_
 rintro e w1 ⟨rfl, h1, u1⟩
 exact qt15
theorem mMCommand_turn (r d : Nat) (p : Pg) (key : Int) (w : World) (h : RdAt w r d p) (hk : key = 118 ∨ key = 86) :
  Calls Tryz.prog 310 #[.agg #[.pointer (some ⟨r, 0, none⟩)], .int .u8 key] w fun e w' => e = .returned (.int .i64 1) ∧ RdAt w' r d (if p.mode = (if key = 86 then 3 else 2) then { p with mode := 0, anchor := 0 } else { p with mode := if key = 86 then 3 else 2 }) ∧ Upd [r, d] w w' := by
 have H := h
 rcases hk with hk | hk
 ·have HM : GivesR 312 #[.agg #[.pointer (some ⟨r, 0, none⟩)], .int .i64 2] r d p (if p.mode = 2 then { p with mode := 0, anchor := 0 } else { p with mode := 2 }) 1 := fun ww hh => mTurn r d p 2 ww hh
  subst hk
  rw [if_neg (show ¬ (118 : Int) = 86 by decide)]
  generalize (if p.mode = 2 then ({ p with mode := 0, anchor := 0 } : Pg) else { p with mode := 2 }) = p2 at *
  clear h
  go_enter func310, ntmps310
  exact qt72
 ·have HM : GivesR 312 #[.agg #[.pointer (some ⟨r, 0, none⟩)], .int .i64 3] r d p (if p.mode = 3 then { p with mode := 0, anchor := 0 } else { p with mode := 3 }) 1 := fun ww hh => mTurn r d p 3 ww hh
  subst hk
  rw [if_pos (show (86 : Int) = 86 by decide)]
  generalize (if p.mode = 3 then ({ p with mode := 0, anchor := 0 } : Pg) else { p with mode := 3 }) = p2 at *
  clear h
  go_enter func310, ntmps310
  exact qt72
theorem mMTake_digit (r d : Nat) (p : Pg) (key : Int) (w : World) (h : RdAt w r d p) (hp : p.part = 0) (hv : p.verb = 0) (hn : p.n ≤ 99) (hd : isD p.n key = true) :
  Calls Tryz.prog 309 #[.agg #[.pointer (some ⟨r, 0, none⟩)], .int .u8 key] w fun e w' => e = .returned (.int .i64 0) ∧ RdAt w' r d { p with n := nextN p.n key } ∧ Upd [r, d] w w' := by
 have H := h
 have HD : Hid (∀ ww, RdAt ww r d p → Calls Tryz.prog 139 #[.pointer (some ⟨r, 1, none⟩), .int .u8 key] ww fun e w' => e = .returned (.bool true) ∧ RdAt w' r d { p with n := nextN p.n key } ∧ Upd [r] ww w') := fun ww hh => mDigit_yes r d p key ww hh hv hn hd
 obtain ⟨b0, b1, b2, b3, b4, b5, bz, bl⟩ := h.bg
 rw [hp] at b5
 clear b1 b2 b3 b4 h
 have l1 : r < w.heap.size + 1 := by omega
 generalize hp2 : ({ p with n := nextN p.n key } : Pg) = p2 at *
 clear hp2 hp hv hn hd
 go_enter func309, ntmps309
 go_wp2_with fail
 refine Calls.mono (HD.out _ qRd) ?_
 rintro e w1 ⟨rfl, h1, u1⟩
 exact qt15
theorem zero_register (w : World) : (zeroValue 99).run Tryz.prog w = .ok (.agg #[.string ⟨#[]⟩, .bool false]) w := by kernel_rfl
theorem check_u8 (e : Bool) (n : Nat) (c : Int) (w : World) : (Instr.checkKey e (n + 1) 5 (.int .u8 c)).run Tryz.prog w = .ok () w := by
 rw [Instr.checkKey]
 simp [run_underlying underlying5]
theorem vBack_piece (s : ByteArray) (a b p : Int) (w : World) :
  qC 221 #[.string s, .agg #[.int .i64 a, .int .i64 b, .bool false], .int .i64 p] w (.int .i64 a) := by
 go_enter func221, ntmps221
 go_wp2
 refine bodyPost_ret (v := .int .i64 a) (by simp [results, results221, go_sem]) rfl ⟨rfl, ?_⟩
 exact qB
theorem vWrites_any (c : Int) (w : World) :
  qC 176 #[.int .u8 c] w (.bool (c == 100 || c == 99 || c == 121)) := by
 go_enter func176, ntmps176
 go_wp2
 ·refine bodyPost_ret (v := .bool true) (by simp [results, results176, go_sem]) rfl ⟨by rename_i h; simp [h], ?_⟩
  exact qB
 ·refine bodyPost_ret (v := .bool true) (by simp [results, results176, go_sem]) rfl ⟨by rename_i h; simp [h], ?_⟩
  exact qB
 ·refine bodyPost_ret (v := .bool (c == 100 || c == 99 || c == 121)) (by simp [results, results176, go_sem]) rfl ⟨rfl, ?_⟩
  exact qB
theorem vBack_lines (s : ByteArray) (a p : Nat) (b : Int) (w : World) (hs : s.size ≤ 1000) (ha : a ≤ s.size) (hp : p ≤ s.size) :
  qC 221 #[.string s, .agg #[.int .i64 a, .int .i64 b, .bool true], .int .i64 p] w (.int .i64 (if beg s a = beg s p ∧ fin s a = fin s p then (p : Int) else min (beg s a + (p - beg s p)) (max (beg s a) (fin s a - 1)))) := by
 have G1 : qH 195 #[.string s, .int .i64 a] (.agg #[.int .i64 (beg s a), .int .i64 (fin s a)]) := fun ww => tLine_any s a a ww hs rfl ha
 have G2 : qH 195 #[.string s, .int .i64 p] (.agg #[.int .i64 (beg s p), .int .i64 (fin s p)]) := fun ww => tLine_any s p p ww hs rfl hp
 have e1 := beg_le s p
 have e2 := beg_le s a
 have e3 := fin_le ha
 generalize beg s a = A at *
 generalize fin s a = B at *
 generalize beg s p = C at *
 generalize fin s p = D at *
 by_cases hx : A = C ∧ B = D
 ·rw [if_pos hx]
  have HQ : ∀ ww, (binOp .eql 128 (.agg #[.int .i64 (A), .int .i64 (B)]) (.agg #[.int .i64 (C), .int .i64 (D)])).run Tryz.prog ww = .ok (.bool true) ww := by intro ww; rw [eql_two]; simp [hx]
  clear hx
  go_enter func221, ntmps221
  go_wp2_with fail
  refine (G1.out _).mono ?_
  rintro e w1 ⟨rfl, h1⟩
  obtain ⟨hc1, hf1, hz1⟩ := qb h1
  try simp at hz1
  go_wp2_with fail
  refine (G2.out _).mono ?_
  rintro e w2 ⟨rfl, h2⟩
  obtain ⟨hc2, hf2, hz2⟩ := qb h2
  try simp at hz2
  clear hc1 hf1 hc2 hf2
  go_wp2
  refine bodyPost_ret (v := .int .i64 p) (by simp [results, results221, go_sem]) rfl ⟨rfl, ?_⟩
  exact qB
 ·rw [if_neg hx]
  have HQ : ∀ ww, (binOp .eql 128 (.agg #[.int .i64 (A), .int .i64 (B)]) (.agg #[.int .i64 (C), .int .i64 (D)])).run Tryz.prog ww = .ok (.bool false) ww := by
   intro ww; rw [eql_two]; congr 2; simp only [Bool.and_eq_false_imp, beq_iff_eq, beq_eq_false_iff_ne]; omega
  have G3 : qH 245 #[.agg #[.int .i64 (A), .int .i64 (B)], .int .i64 ((p : Int) - C)] (.int .i64 (min (A + (p - C)) (max (A : Int) (B - 1)))) := fun ww => tColumn_any A B (p - C) ww qo qo
  generalize min ((A : Int) + (p - C)) (max (A : Int) (B - 1)) = X at *
  clear hx
  go_enter func221, ntmps221
  go_wp2_with fail
  refine (G1.out _).mono ?_
  rintro e w1 ⟨rfl, h1⟩
  obtain ⟨hc1, hf1, hz1⟩ := qb h1
  try simp at hz1
  go_wp2_with fail
  refine (G2.out _).mono ?_
  rintro e w2 ⟨rfl, h2⟩
  obtain ⟨hc2, hf2, hz2⟩ := qb h2
  try simp at hz2
  clear hc1 hf1 hc2 hf2
  go_wp2_with fail
  refine (G3.out _).mono ?_
  rintro e w3 ⟨rfl, h3⟩
  obtain ⟨hc3, hf3, hz3⟩ := qb h3
  try simp at hz3
  go_wp2
  refine bodyPost_ret (v := .int .i64 X) (by simp [results, results221, go_sem]) rfl ⟨rfl, ?_⟩
  exact qB
theorem lastIB_big (s : ByteArray) (c : Int) (w : World) (hs : s.size ≤ 1000000) :
  Calls Tryz.prog 268 #[.string s, .int .u8 c] w fun e w' => e = .returned (.int .i64 (((Nib.dn (fun i => bt s i != c) s.size : Nat) : Int) - 1)) ∧ w' = w := by
 exact qt22
theorem lastIndexByte_big (s : ByteArray) (c : Int) (w : World) (hs : s.size ≤ 1000000) :
  Calls Tryz.prog 228 #[.string s, .int .u8 c] w fun e w' => e = .returned (.int .i64 (((Nib.dn (fun i => bt s i != c) s.size : Nat) : Int) - 1)) ∧ w' = w := by
 go_enter func228, ntmps228
 go_wp2_with fail
 refine (lastIB_big s c w hs).mono ?_
 rintro e w' ⟨rfl, rfl⟩
 go_wp2
 go_ret
 exact ⟨rfl, rfl⟩
theorem tLine_big (s : ByteArray) (p : Int) (k : Nat) (w : World) (hs : s.size ≤ 1000000) (e : p = k) (hk : k ≤ s.size) :
  qC 195 #[.string s, .int .i64 p] w (.agg #[.int .i64 (beg s k), .int .i64 (fin s k)]) := by
 subst e
 have h1 : (s.extract 0 k).size = k := by rw [ByteArray.size_extract]; omega
 have h2 : (s.extract k s.size).size = s.size - k := by rw [ByteArray.size_extract]; omega
 have HB : Hid (((Nib.dn (fun i => bt (s.extract 0 k) i != 10) (s.extract 0 k).size : Nat) : Int) = beg s k) := by rw [Hid, h1, dn_cut hk]
 have HF : Hid (firstIdx (s.extract k s.size) (10 : Int).toNat.toUInt8 = if fin s k < s.size then ((fin s k : Nat) : Int) - k else -1) := by
  have := fin_ge s k
  rw [Hid, first_up _ 10 qo qo, h2, up_cut hk]
  by_cases h : fin s k < s.size
  ·rw [if_pos h, if_pos qo]; omega
  ·rw [if_neg h, if_neg qo]
 have hbl := beg_le s k
 have hfl := fin_le hk
 have hfg := fin_ge s k
 have HE : ¬ fin s k < s.size → fin s k = s.size := by omega
 generalize beg s k = B at *
 generalize fin s k = F at *
 go_enter func195, ntmps195
 go_wp2_with fail
 refine (lastIndexByte_big (s.extract 0 k) 10 _ qo).mono ?_
 exact qt51
theorem tLast_big (a b : Int) (w : World) (h : -5000000 ≤ b ∧ b ≤ 5000000) :
  qC 202 #[.agg #[.int .i64 (a), .int .i64 (b)]] w (.int .i64 (max a (b - 1))) := by
 exact qt77
theorem tIndent_big (s : ByteArray) (a b : Int) (k : Nat) (w : World) (hs : s.size ≤ 1000000) (hk : k ≤ s.size) (ea : a = beg s k) (eb : b = fin s k) :
  qC 187 #[.string s, .agg #[.int .i64 (a), .int .i64 (b)]] w (.agg #[.int .i64 (beg s k), .int .i64 (ind s k)]) := by
 exact qt16
theorem tFirst_big (s : ByteArray) (a b : Int) (k : Nat) (w : World) (hs : s.size ≤ 1000000) (hk : k ≤ s.size) (ea : a = beg s k) (eb : b = fin s k) :
  qC 243 #[.string s, .agg #[.int .i64 (a), .int .i64 (b)]] w (.int .i64 (frs s k)) := by
 subst ea eb
 have hf := fin_le hk
 have HF := frs_min s k hk
 rw [lst_max] at HF
 have HI : qH 187 #[.string s, .agg #[.int .i64 (beg s k), .int .i64 (fin s k)]] (.agg #[.int .i64 (beg s k), .int .i64 (ind s k)]) := fun ww => tIndent_big s _ _ k ww hs hk rfl rfl
 have HL : qH 202 #[.agg #[.int .i64 (beg s k), .int .i64 (fin s k)]] (.int .i64 (max ((beg s k : Nat) : Int) (((fin s k : Nat) : Int) - 1))) := fun ww => tLast_big _ _ ww qo
 exact qt27
