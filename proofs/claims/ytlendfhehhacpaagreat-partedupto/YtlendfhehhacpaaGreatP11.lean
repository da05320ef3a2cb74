/- A part. -/
import Derived.Test.YtlendfhehhacpaaGreatP10
import Derived.OwnWalk
import Derived.ArgAppend
import Derived.Test.YtlendfhehhacpaaGreatP09
import Derived.Shelf.Abstract
set_option linter.unusedVariables false
set_option linter.unusedSimpArgs false
set_option maxRecDepth 100000
set_option maxHeartbeats 8000000
namespace Go.Proofs.YtlendfhehhacpaaGreat
open Go.RowKit
theorem mEscape (r d : Nat) (p : Pg) (w : World) (h : RdAt w r d p) :
  Calls Tryz.prog 135 #[.pointer (some ⟨r, 0, none⟩)] w fun e w' => e = .returned (.int .i64 1) ∧ RdAt w' r d { p.none' with mode := 0, anchor := 0 } ∧ Upd [r, d] w w' := by
 have H := h
 have HN : Hid (∀ ww, RdAt ww r d p.none' → Calls Tryz.prog 136 #[.pointer (some ⟨d, 0, none⟩)] ww fun e w' => e = .returned (.tuple #[]) ∧ RdAt w' r d { p.none' with mode := 0, anchor := 0 } ∧ Upd [d] ww w') := fun ww hh => mToNormal r d p.none' ww hh
 have HF : Hid (∀ ww, RdAt ww r d p → Calls Tryz.prog 65 #[.pointer (some ⟨r, 1, none⟩)] ww fun e w' => e = .returned (.tuple #[]) ∧ RdAt w' r d p.none' ∧ Upd [r] ww w') := fun ww hh => mForget r d p ww hh
 generalize p.none' = p1 at *
 generalize hp2 : ({ p1 with mode := 0, anchor := 0 } : Pg) = p2 at *
 clear hp2
 obtain ⟨b0, b1, b2, b3, b4, b5, bz, bl⟩ := h.bg
 clear h
 go_enter Tryz.func135, Tryz.ntmps135
 go_wp2_with fail
 refine Calls.mono (HF.out _ qRd) ?_
 rintro e w1 ⟨rfl, h1, u1⟩
 have g0 := h1.bg.c0
 go_wp2_with fail
 refine Calls.mono (HN.out _ qRd) ?_
 rintro e w2 ⟨rfl, h2, u2⟩
 exact qt16
theorem mWay_part (r d : Nat) (p : Pg) (key : Int) (w : World) (h : RdAt w r d p) (hk : Nib.isFind key = true ∨ key = 103) :
  Calls Tryz.prog 148 #[.pointer (some ⟨r, 0, none⟩), .int .u8 key] w fun e w' => e = .returned (.int .i64 0) ∧ RdAt w' r d { p with part := key } ∧ Upd [r] w w' := by
 have H := h
 have HN : Hid (∀ ww, RdAt ww r d p → Calls Tryz.prog 142 #[.pointer (some ⟨r, 1, none⟩), .int .u8 key] ww fun e w' => e = .returned (.int .i64 0) ∧ RdAt w' r d { p with part := key } ∧ Upd [r] ww w') := fun ww hh => mAwait r d p key ww hh
 generalize hp2 : ({ p with part := key } : Pg) = p2 at *
 clear hp2
 obtain ⟨b0, b1, b2, b3, b4, b5, bz, bl⟩ := h.bg
 clear h
 simp only [Nib.isFind, Bool.or_eq_true, beq_iff_eq] at hk
 rcases hk with (((hk | hk) | hk) | hk) | hk
 all_goals
  subst hk
  go_enter Tryz.func148, Tryz.ntmps148
  go_wp2_with fail
  refine Calls.mono (HN.out _ qRd) ?_
  rintro e w1 ⟨rfl, h1, u1⟩
  go_wp2
  go_ret
  refine ⟨rfl, ?_, ?_⟩
  ·repeat exact qRd
  ·repeat exact qU
theorem qt58 {P : Prop} (h : P := by
  go_wp2_with fail
  refine Calls.mono (HS.out _ qRd) ?_
  rintro e w1 ⟨rfl, h1⟩
  go_wp2_with fail
  refine Calls.mono (HG.out _) ?_
  rintro e w2 ⟨rfl, h2⟩
  go_wp2_with fail
  refine Calls.mono (HA.out _ qRd) ?_
  rintro e w3 ⟨rfl, h3, u3⟩
  exact qt16
 ) : P := h
theorem mWay_go (r d : Nat) (p : Pg) (key : Int) (R : Int × Int × Bool) (w : World) (h : RdAt w r d p) (hn : p.n ≤ 99) (hb : p.behind ≤ 99) (hs : p.t.size ≤ 1000) (hv : p.verb = 0)
  (hR : R.2.2 = false → 0 ≤ R.1 ∧ R.1 ≤ p.t.size) (hk1 : Nib.isFind key = false) (hk2 : ¬ key = 103) (hk3 : ¬ key = 59) (hk4 : ¬ key = 44)
  (HG : qH 169 #[.int .u8 key, .agg #[.string p.t, .int .i64 (p.pl), .int .i64 (cnt p), .bool false, .bool false]] (.tuple #[.agg #[.int .i64 (wayX (R)), .int .i64 (wayK (R))], .bool (wayZ (R))])) :
  Calls Tryz.prog 148 #[.pointer (some ⟨r, 0, none⟩), .int .u8 key] w fun e w' =>
   e = .returned (.int .i64 (if R.2.2 = true then 4 else 1)) ∧ RdAt w' r d (arrEd p R) ∧ Upd [d] w w' := by
 have H := h
 have HS : Hid (∀ ww, RdAt ww r d p → qC 168 #[.pointer (some ⟨r, 0, none⟩)] ww (.agg #[.string p.t, .int .i64 (p.pl), .int .i64 (cnt p), .bool false, .bool false])) := by
  intro ww hh
  have := mStart r d p ww hh hn hb
  rw [hv] at this
  exact this
 have HA : Hid (∀ ww, RdAt ww r d p → Calls Tryz.prog 166 #[.pointer (some ⟨r, 0, none⟩), .agg #[.int .i64 (wayX R), .int .i64 (wayK R)], .bool (wayZ R)] ww fun e w' =>
   e = .returned (.int .i64 (if R.2.2 = true then 4 else 1)) ∧ RdAt w' r d (arrEd p R) ∧ Upd [d] ww w') := fun ww hh => mArrive r d p R ww hh hs hv hR
 generalize (if R.2.2 = true then (4 : Int) else 1) = O at *
 generalize arrEd p R = p2 at *
 generalize wayX R = X at *
 generalize wayK R = K at *
 generalize wayZ R = Z at *
 simp only [Nib.isFind, Bool.or_eq_false_iff, beq_eq_false_iff_ne] at hk1
 obtain ⟨⟨⟨k1, k2⟩, k3⟩, k4⟩ := hk1
 have k1' : (key == 102) = false := by simp [k1]
 have k2' : (key == 116) = false := by simp [k2]
 have k3' : (key == 70) = false := by simp [k3]
 have k4' : (key == 84) = false := by simp [k4]
 have k5' : (key == 103) = false := by simp [hk2]
 have k6' : (key == 59) = false := by simp [hk3]
 have k7' : (key == 44) = false := by simp [hk4]
 clear k1 k2 k3 k4 hk2 hk3 hk4 hv hR h
 go_enter Tryz.func148, Tryz.ntmps148
 exact qt58
theorem mWay_again (r d : Nat) (p : Pg) (R : Int × Int × Bool) (w : World) (h : RdAt w r d p) (hn : p.n ≤ 99) (hb : p.behind ≤ 99) (hs : p.t.size ≤ 1000) (hv : p.verb = 0)
  (hR : R.2.2 = false → 0 ≤ R.1 ∧ R.1 ≤ p.t.size)
  (HG : qH 183 #[.agg #[.int .u8 p.fnd, .int .u8 p.findC], .agg #[.string p.t, .int .i64 (p.pl), .int .i64 (cnt p), .bool false, .bool false]] (.tuple #[.agg #[.int .i64 (wayX (R)), .int .i64 (wayK (R))], .bool (wayZ (R))])) :
  Calls Tryz.prog 148 #[.pointer (some ⟨r, 0, none⟩), .int .u8 59] w fun e w' =>
   e = .returned (.int .i64 (if R.2.2 = true then 4 else 1)) ∧ RdAt w' r d (arrEd p R) ∧ Upd [d] w w' := by
 have H := h
 have HS : Hid (∀ ww, RdAt ww r d p → qC 168 #[.pointer (some ⟨r, 0, none⟩)] ww (.agg #[.string p.t, .int .i64 (p.pl), .int .i64 (cnt p), .bool false, .bool false])) := by
  intro ww hh
  have := mStart r d p ww hh hn hb
  rw [hv] at this
  exact this
 have HA : Hid (∀ ww, RdAt ww r d p → Calls Tryz.prog 166 #[.pointer (some ⟨r, 0, none⟩), .agg #[.int .i64 (wayX R), .int .i64 (wayK R)], .bool (wayZ R)] ww fun e w' =>
   e = .returned (.int .i64 (if R.2.2 = true then 4 else 1)) ∧ RdAt w' r d (arrEd p R) ∧ Upd [d] ww w') := fun ww hh => mArrive r d p R ww hh hs hv hR
 have f1 : (arrEd p R).fnd = p.fnd := by unfold arrEd; split <;> rfl
 have f2 : (arrEd p R).findC = p.findC := by unfold arrEd; split <;> rfl
 generalize (if R.2.2 = true then (4 : Int) else 1) = O at *
 generalize arrEd p R = p2 at *
 generalize wayX R = X at *
 generalize wayK R = K at *
 generalize wayZ R = Z at *
 obtain ⟨c0, c1, c2, c3, c4, c5, c6, c7, c8, c9, fz, lt⟩ := h.dk
 obtain ⟨b0, b1, b2, b3, b4, b5, bz, bl⟩ := h.bg
 clear c0 c1 c2 c3 c4 c5 c6 c7 b1 b2 b3 b4 b5 hv hR h
 go_enter Tryz.func148, Tryz.ntmps148
 go_wp2_with fail
 go_region_held3 (fun ww => ww.cell? ⟨r, 0, none⟩ = some (.pointer (some ⟨d, 0, none⟩)) ∧ ww.cell? ⟨d, 8, none⟩ = some (.int .u8 p.fnd) ∧ ww.cell? ⟨d, 9, none⟩ = some (.int .u8 p.findC)) (exact qK) (first | (go_at_call 168; refine Calls.mono (HS.out _ qRd) ?_; rintro r1 w1 ⟨rfl, h1⟩; have hz1 := h1.size; (try simp at hz1); (try have ⟨hl1_0, hk1_0⟩ := qL d w1.heap.size); (try have ⟨hl1_1, hk1_1⟩ := qL r w1.heap.size)) | (go_at_call 183; refine Calls.mono (HG.out _) ?_; rintro r2 w2 ⟨rfl, h2⟩; have hz2 := h2.size; (try simp at hz2); (try have ⟨hl2_0, hk2_0⟩ := qL d w2.heap.size); (try have ⟨hl2_1, hk2_1⟩ := qL r w2.heap.size)) | (go_at_call 166; refine Calls.mono (HA.out _ qRd) ?_; rintro r3 w3 ⟨rfl, h3, u3⟩; have hz3 := u3.size; (try simp at hz3); have g0 := h3.bg.c0; have g8 := h3.dk.c8; have g9 := h3.dk.c9; rw [f1] at g8; rw [f2] at g9))
 exact qt16
theorem mWay_turned (r d : Nat) (p : Pg) (K1 : Int) (R : Int × Int × Bool) (w : World) (h : RdAt w r d p) (hn : p.n ≤ 99) (hb : p.behind ≤ 99) (hs : p.t.size ≤ 1000) (hv : p.verb = 0)
  (hR : R.2.2 = false → 0 ≤ R.1 ∧ R.1 ≤ p.t.size)
  (HT : qH 184 #[.agg #[.int .u8 p.fnd, .int .u8 p.findC]] (.agg #[.int .u8 K1, .int .u8 p.findC]))
  (HG : qH 183 #[.agg #[.int .u8 K1, .int .u8 p.findC], .agg #[.string p.t, .int .i64 (p.pl), .int .i64 (cnt p), .bool false, .bool false]] (.tuple #[.agg #[.int .i64 (wayX (R)), .int .i64 (wayK (R))], .bool (wayZ (R))])) :
  Calls Tryz.prog 148 #[.pointer (some ⟨r, 0, none⟩), .int .u8 44] w fun e w' =>
   e = .returned (.int .i64 (if R.2.2 = true then 4 else 1)) ∧ RdAt w' r d (arrEd p R) ∧ Upd [d] w w' := by
 have H := h
 have HS : Hid (∀ ww, RdAt ww r d p → qC 168 #[.pointer (some ⟨r, 0, none⟩)] ww (.agg #[.string p.t, .int .i64 (p.pl), .int .i64 (cnt p), .bool false, .bool false])) := by
  intro ww hh
  have := mStart r d p ww hh hn hb
  rw [hv] at this
  exact this
 have HA : Hid (∀ ww, RdAt ww r d p → Calls Tryz.prog 166 #[.pointer (some ⟨r, 0, none⟩), .agg #[.int .i64 (wayX R), .int .i64 (wayK R)], .bool (wayZ R)] ww fun e w' =>
   e = .returned (.int .i64 (if R.2.2 = true then 4 else 1)) ∧ RdAt w' r d (arrEd p R) ∧ Upd [d] ww w') := fun ww hh => mArrive r d p R ww hh hs hv hR
 have f1 : (arrEd p R).fnd = p.fnd := by unfold arrEd; split <;> rfl
 have f2 : (arrEd p R).findC = p.findC := by unfold arrEd; split <;> rfl
 generalize (if R.2.2 = true then (4 : Int) else 1) = O at *
 generalize arrEd p R = p2 at *
 generalize wayX R = X at *
 generalize wayK R = K at *
 generalize wayZ R = Z at *
 obtain ⟨c0, c1, c2, c3, c4, c5, c6, c7, c8, c9, fz, lt⟩ := h.dk
 obtain ⟨b0, b1, b2, b3, b4, b5, bz, bl⟩ := h.bg
 clear c0 c1 c2 c3 c4 c5 c6 c7 b1 b2 b3 b4 b5 hv hR h
 go_enter Tryz.func148, Tryz.ntmps148
 go_wp2_with fail
 refine Calls.mono (HT.out _) ?_
 rintro e w4 ⟨rfl, h4⟩
 exact qt58
theorem mComplete_gg (r d : Nat) (p : Pg) (R : Int × Int × Bool) (w : World) (h : RdAt w r d p) (hn : p.n ≤ 99) (hb : p.behind ≤ 99) (hs : p.t.size ≤ 1000) (hv : p.verb = 0) (hp : p.part = 103)
  (hR : R.2.2 = false → 0 ≤ R.1 ∧ R.1 ≤ p.t.size)
  (HG : qH 169 #[.int .u8 103, .agg #[.string p.t, .int .i64 (p.pl), .int .i64 (cnt p), .bool false, .bool false]] (.tuple #[.agg #[.int .i64 (wayX (R)), .int .i64 (wayK (R))], .bool (wayZ (R))])) :
  Calls Tryz.prog 145 #[.pointer (some ⟨r, 0, none⟩), .int .u8 103] w fun e w' =>
   e = .returned (.int .i64 (if R.2.2 = true then 4 else 1)) ∧ RdAt w' r d (arrEd p R) ∧ Upd [d] w w' := by
 have H := h
 have HS : Hid (∀ ww, RdAt ww r d p → qC 168 #[.pointer (some ⟨r, 0, none⟩)] ww (.agg #[.string p.t, .int .i64 (p.pl), .int .i64 (cnt p), .bool false, .bool false])) := by
  intro ww hh
  have := mStart r d p ww hh hn hb
  rw [hv] at this
  exact this
 have HA : Hid (∀ ww, RdAt ww r d p → Calls Tryz.prog 166 #[.pointer (some ⟨r, 0, none⟩), .agg #[.int .i64 (wayX R), .int .i64 (wayK R)], .bool (wayZ R)] ww fun e w' =>
   e = .returned (.int .i64 (if R.2.2 = true then 4 else 1)) ∧ RdAt w' r d (arrEd p R) ∧ Upd [d] ww w') := fun ww hh => mArrive r d p R ww hh hs hv hR
 generalize (if R.2.2 = true then (4 : Int) else 1) = O at *
 generalize arrEd p R = p2 at *
 generalize wayX R = X at *
 generalize wayK R = K at *
 generalize wayZ R = Z at *
 obtain ⟨b0, b1, b2, b3, b4, b5, bz, bl⟩ := h.bg
 rw [hp] at b5
 clear b1 b2 b3 b4 hv hR h hp
 go_enter Tryz.func145, Tryz.ntmps145
 exact qt58
theorem mComplete_g (r d : Nat) (p : Pg) (key : Int) (w : World) (h : RdAt w r d p) (hp : p.part = 103) (hk : ¬ key = 103) :
  qC 145 #[.pointer (some ⟨r, 0, none⟩), .int .u8 key] w (.int .i64 4) := by
 obtain ⟨b0, b1, b2, b3, b4, b5, bz, bl⟩ := h.bg
 rw [hp] at b5
 have hk' : (key == 103) = false := by simp [hk]
 clear b1 b2 b3 b4 h hp hk
 go_enter Tryz.func145, Tryz.ntmps145
 go_wp2
 exact qV (.int .i64 4) (by simp [results, Tryz.results145, go_sem]) rfl
theorem mComplete_find (r d : Nat) (p : Pg) (key : Int) (R : Int × Int × Bool) (w : World) (h : RdAt w r d p) (hn : p.n ≤ 99) (hb : p.behind ≤ 99) (hs : p.t.size ≤ 1000) (hv : p.verb = 0) (hp : Nib.isFind p.part = true)
  (hR : R.2.2 = false → 0 ≤ R.1 ∧ R.1 ≤ p.t.size)
  (HG : qH 167 #[.agg #[.int .u8 p.part, .int .u8 key], .agg #[.string p.t, .int .i64 (p.pl), .int .i64 (cnt p), .bool false, .bool false]] (.tuple #[.agg #[.int .i64 (wayX (R)), .int .i64 (wayK (R))], .bool (wayZ (R))])) :
  Calls Tryz.prog 145 #[.pointer (some ⟨r, 0, none⟩), .int .u8 key] w fun e w' =>
   e = .returned (.int .i64 (if R.2.2 = true then 4 else 1)) ∧ RdAt w' r d (arrEd { p with fnd := p.part, findC := key } R) ∧ Upd [d] w w' := by
 have H0 := h
 have HP : Hid (∀ ww, RdAt ww r d p → RdAt ((ww.setCell ⟨d, 8, none⟩ (.int .u8 p.part)).setCell ⟨d, 9, none⟩ (.int .u8 key)) r d { p with fnd := p.part, findC := key }) := fun ww hh => (hh.set_fnd p.part).set_findC key
 have HS : Hid (∀ ww, RdAt ww r d { p with fnd := p.part, findC := key } → qC 168 #[.pointer (some ⟨r, 0, none⟩)] ww (.agg #[.string p.t, .int .i64 (p.pl), .int .i64 (cnt p), .bool false, .bool false])) := by
  intro ww hh
  have := mStart r d { p with fnd := p.part, findC := key } ww hh hn hb
  simp only [hv] at this
  exact this
 have HA : Hid (∀ ww, RdAt ww r d { p with fnd := p.part, findC := key } → Calls Tryz.prog 166 #[.pointer (some ⟨r, 0, none⟩), .agg #[.int .i64 (wayX R), .int .i64 (wayK R)], .bool (wayZ R)] ww fun e w' =>
   e = .returned (.int .i64 (if R.2.2 = true then 4 else 1)) ∧ RdAt w' r d (arrEd { p with fnd := p.part, findC := key } R) ∧ Upd [d] ww w') := fun ww hh => mArrive r d { p with fnd := p.part, findC := key } R ww hh hs hv hR
 have f1 : (arrEd { p with fnd := p.part, findC := key } R).fnd = p.part := by unfold arrEd; split <;> rfl
 have f2 : (arrEd { p with fnd := p.part, findC := key } R).findC = key := by unfold arrEd; split <;> rfl
 generalize (if R.2.2 = true then (4 : Int) else 1) = O at *
 generalize arrEd { p with fnd := p.part, findC := key } R = p2 at *
 generalize hp1 : ({ p with fnd := p.part, findC := key } : Pg) = p1 at *
 have f3 : p1.fnd = p.part := by rw [← hp1]
 have f4 : p1.findC = key := by rw [← hp1]
 clear hp1
 generalize wayX R = X at *
 generalize wayK R = K at *
 generalize wayZ R = Z at *
 obtain ⟨c0, c1, c2, c3, c4, c5, c6, c7, c8, c9, fz, lt⟩ := h.dk
 obtain ⟨b0, b1, b2, b3, b4, b5, bz, bl⟩ := h.bg
 clear c0 c1 c2 c3 c4 c5 c6 c7 b1 b2 b3 b4 hv hR h
 simp only [Nib.isFind, Bool.or_eq_true, beq_iff_eq] at hp
 generalize p.part = part at *
 generalize p.t = T at *
 generalize p.pl = PL at *
 generalize cnt p = N at *
 have nrd := H0.ne
 have nrd1 : ¬ r = d := nrd
 have nrd2 : ¬ d = r := Ne.symm nrd
 clear nrd
 rcases hp with ((hp | hp) | hp) | hp
 ·subst hp
  go_enter Tryz.func145, Tryz.ntmps145
  go_wp2_with fail
  go_region_held3 (fun ww => ww.cell? ⟨r, 0, none⟩ = some (.pointer (some ⟨d, 0, none⟩)) ∧ ww.cell? ⟨r, 5, none⟩ = some (.int .u8 102)) (exact qK) (fail)
  go_wp2_with fail
  go_region_held3 (fun ww => ww.cell? ⟨r, 0, none⟩ = some (.pointer (some ⟨d, 0, none⟩)) ∧ ww.cell? ⟨d, 8, none⟩ = some (.int .u8 102) ∧ ww.cell? ⟨d, 9, none⟩ = some (.int .u8 key)) (exact qK) (first | (go_at_call 168; refine Calls.mono (HS.out _ (by (repeat (with_reducible first | exact H0 | refine HP.out _ ?_ | refine RdAt.drewN ?_ _ | refine RdAt.drew ?_)))) ?_; rintro r1 w1 ⟨rfl, h1⟩; have hz1 := h1.size; (try simp at hz1); (try have ⟨hl1_0, hk1_0⟩ := qL d w1.heap.size); (try have ⟨hl1_1, hk1_1⟩ := qL r w1.heap.size)) | (go_at_call 167; refine Calls.mono (HG.out _) ?_; rintro r2 w2 ⟨rfl, h2⟩; have hz2 := h2.size; (try simp at hz2); (try have ⟨hl2_0, hk2_0⟩ := qL d w2.heap.size); (try have ⟨hl2_1, hk2_1⟩ := qL r w2.heap.size)) | (go_at_call 166; refine Calls.mono (HA.out _ (by (repeat (with_reducible first | exact H0 | refine HP.out _ ?_ | refine RdAt.drewN ?_ _ | refine RdAt.drew ?_ | refine RdAt.below ?_ h2 | refine RdAt.below ?_ h1)))) ?_; rintro r3 w3 ⟨rfl, h3, u3⟩; have hz3 := u3.size; (try simp at hz3); have g0 := h3.bg.c0; have g8 := h3.dk.c8; have g9 := h3.dk.c9; rw [f1] at g8; rw [f2] at g9))
  exact qt16
 ·subst hp
  go_enter Tryz.func145, Tryz.ntmps145
  go_wp2_with fail
  go_region_held3 (fun ww => ww.cell? ⟨r, 0, none⟩ = some (.pointer (some ⟨d, 0, none⟩)) ∧ ww.cell? ⟨r, 5, none⟩ = some (.int .u8 116)) (exact qK) (fail)
  go_wp2_with fail
  go_region_held3 (fun ww => ww.cell? ⟨r, 0, none⟩ = some (.pointer (some ⟨d, 0, none⟩)) ∧ ww.cell? ⟨d, 8, none⟩ = some (.int .u8 116) ∧ ww.cell? ⟨d, 9, none⟩ = some (.int .u8 key)) (exact qK) (first | (go_at_call 168; refine Calls.mono (HS.out _ (by (repeat (with_reducible first | exact H0 | refine HP.out _ ?_ | refine RdAt.drewN ?_ _ | refine RdAt.drew ?_)))) ?_; rintro r1 w1 ⟨rfl, h1⟩; have hz1 := h1.size; (try simp at hz1); (try have ⟨hl1_0, hk1_0⟩ := qL d w1.heap.size); (try have ⟨hl1_1, hk1_1⟩ := qL r w1.heap.size)) | (go_at_call 167; refine Calls.mono (HG.out _) ?_; rintro r2 w2 ⟨rfl, h2⟩; have hz2 := h2.size; (try simp at hz2); (try have ⟨hl2_0, hk2_0⟩ := qL d w2.heap.size); (try have ⟨hl2_1, hk2_1⟩ := qL r w2.heap.size)) | (go_at_call 166; refine Calls.mono (HA.out _ (by (repeat (with_reducible first | exact H0 | refine HP.out _ ?_ | refine RdAt.drewN ?_ _ | refine RdAt.drew ?_ | refine RdAt.below ?_ h2 | refine RdAt.below ?_ h1)))) ?_; rintro r3 w3 ⟨rfl, h3, u3⟩; have hz3 := u3.size; (try simp at hz3); have g0 := h3.bg.c0; have g8 := h3.dk.c8; have g9 := h3.dk.c9; rw [f1] at g8; rw [f2] at g9))
  exact qt16
 ·subst hp
  go_enter Tryz.func145, Tryz.ntmps145
  go_wp2_with fail
  go_region_held3 (fun ww => ww.cell? ⟨r, 0, none⟩ = some (.pointer (some ⟨d, 0, none⟩)) ∧ ww.cell? ⟨r, 5, none⟩ = some (.int .u8 70)) (exact qK) (fail)
  go_wp2_with fail
  go_region_held3 (fun ww => ww.cell? ⟨r, 0, none⟩ = some (.pointer (some ⟨d, 0, none⟩)) ∧ ww.cell? ⟨d, 8, none⟩ = some (.int .u8 70) ∧ ww.cell? ⟨d, 9, none⟩ = some (.int .u8 key)) (exact qK) (first | (go_at_call 168; refine Calls.mono (HS.out _ (by (repeat (with_reducible first | exact H0 | refine HP.out _ ?_ | refine RdAt.drewN ?_ _ | refine RdAt.drew ?_)))) ?_; rintro r1 w1 ⟨rfl, h1⟩; have hz1 := h1.size; (try simp at hz1); (try have ⟨hl1_0, hk1_0⟩ := qL d w1.heap.size); (try have ⟨hl1_1, hk1_1⟩ := qL r w1.heap.size)) | (go_at_call 167; refine Calls.mono (HG.out _) ?_; rintro r2 w2 ⟨rfl, h2⟩; have hz2 := h2.size; (try simp at hz2); (try have ⟨hl2_0, hk2_0⟩ := qL d w2.heap.size); (try have ⟨hl2_1, hk2_1⟩ := qL r w2.heap.size)) | (go_at_call 166; refine Calls.mono (HA.out _ (by (repeat (with_reducible first | exact H0 | refine HP.out _ ?_ | refine RdAt.drewN ?_ _ | refine RdAt.drew ?_ | refine RdAt.below ?_ h2 | refine RdAt.below ?_ h1)))) ?_; rintro r3 w3 ⟨rfl, h3, u3⟩; have hz3 := u3.size; (try simp at hz3); have g0 := h3.bg.c0; have g8 := h3.dk.c8; have g9 := h3.dk.c9; rw [f1] at g8; rw [f2] at g9))
  exact qt16
 ·subst hp
  go_enter Tryz.func145, Tryz.ntmps145
  go_wp2_with fail
  go_region_held3 (fun ww => ww.cell? ⟨r, 0, none⟩ = some (.pointer (some ⟨d, 0, none⟩)) ∧ ww.cell? ⟨r, 5, none⟩ = some (.int .u8 84)) (exact qK) (fail)
  go_wp2_with fail
  go_region_held3 (fun ww => ww.cell? ⟨r, 0, none⟩ = some (.pointer (some ⟨d, 0, none⟩)) ∧ ww.cell? ⟨d, 8, none⟩ = some (.int .u8 84) ∧ ww.cell? ⟨d, 9, none⟩ = some (.int .u8 key)) (exact qK) (first | (go_at_call 168; refine Calls.mono (HS.out _ (by (repeat (with_reducible first | exact H0 | refine HP.out _ ?_ | refine RdAt.drewN ?_ _ | refine RdAt.drew ?_)))) ?_; rintro r1 w1 ⟨rfl, h1⟩; have hz1 := h1.size; (try simp at hz1); (try have ⟨hl1_0, hk1_0⟩ := qL d w1.heap.size); (try have ⟨hl1_1, hk1_1⟩ := qL r w1.heap.size)) | (go_at_call 167; refine Calls.mono (HG.out _) ?_; rintro r2 w2 ⟨rfl, h2⟩; have hz2 := h2.size; (try simp at hz2); (try have ⟨hl2_0, hk2_0⟩ := qL d w2.heap.size); (try have ⟨hl2_1, hk2_1⟩ := qL r w2.heap.size)) | (go_at_call 166; refine Calls.mono (HA.out _ (by (repeat (with_reducible first | exact H0 | refine HP.out _ ?_ | refine RdAt.drewN ?_ _ | refine RdAt.drew ?_ | refine RdAt.below ?_ h2 | refine RdAt.below ?_ h1)))) ?_; rintro r3 w3 ⟨rfl, h3, u3⟩; have hz3 := u3.size; (try simp at hz3); have g0 := h3.bg.c0; have g8 := h3.dk.c8; have g9 := h3.dk.c9; rw [f1] at g8; rw [f2] at g9))
  exact qt16
abbrev GivesR (f : Nat) (args : Array Value) (r d : Nat) (p p2 : Pg) (O : Int) : Prop :=
 Hid (∀ ww, RdAt ww r d p → Calls Tryz.prog f args ww fun e w' => e = .returned (.int .i64 O) ∧ RdAt w' r d p2 ∧ Upd [r, d] ww w')
theorem GivesR.of_d {f : Nat} {args : Array Value} {r d : Nat} {p p2 : Pg} {O : Int} (h : ∀ ww, RdAt ww r d p → Calls Tryz.prog f args ww fun e w' => e = .returned (.int .i64 O) ∧ RdAt w' r d p2 ∧ Upd [d] ww w') : GivesR f args r d p p2 O :=
 fun ww hh => Calls.mono (h ww hh) (fun _ _ ⟨a, b, c⟩ => ⟨a, b, c.mono qi⟩)
theorem GivesR.of_below {f : Nat} {args : Array Value} {r d : Nat} {p : Pg} {O : Int} (h : ∀ ww, RdAt ww r d p → qC f args ww (.int .i64 O)) : GivesR f args r d p p O :=
 fun ww hh => Calls.mono (h ww hh) (fun _ _ ⟨a, b⟩ => ⟨a, hh.below b, Upd.of_below b⟩)
def kCmd : List Int := [34, 100, 99, 121, 62, 60, 114, 118, 86, 120, 88, 68, 67, 115, 83, 89, 105, 97, 73, 65, 111, 79, 112, 80, 126, 74, 117, 18, 46]
theorem mCommand_way (r d : Nat) (p p2 : Pg) (key O : Int) (w : World) (h : RdAt w r d p) (hk : ∀ c, c ∈ kCmd → ¬ key = c)
  (HC : GivesR 148 #[.pointer (some ⟨r, 0, none⟩), .int .u8 key] r d p p2 O) :
  Calls Tryz.prog 141 #[.agg #[.pointer (some ⟨r, 0, none⟩)], .int .u8 key] w fun e w' => e = .returned (.int .i64 O) ∧ RdAt w' r d p2 ∧ Upd [r, d] w w' := by
 have H := h
 have k34 : (key == 34) = false := by simp [hk 34 qd]
 have k100 : (key == 100) = false := by simp [hk 100 qd]
 have k99 : (key == 99) = false := by simp [hk 99 qd]
 have k121 : (key == 121) = false := by simp [hk 121 qd]
 have k62 : (key == 62) = false := by simp [hk 62 qd]
 have k60 : (key == 60) = false := by simp [hk 60 qd]
 have k114 : (key == 114) = false := by simp [hk 114 qd]
 have k118 : (key == 118) = false := by simp [hk 118 qd]
 have k86 : (key == 86) = false := by simp [hk 86 qd]
 have k120 : (key == 120) = false := by simp [hk 120 qd]
 have k88 : (key == 88) = false := by simp [hk 88 qd]
 have k68 : (key == 68) = false := by simp [hk 68 qd]
 have k67 : (key == 67) = false := by simp [hk 67 qd]
 have k115 : (key == 115) = false := by simp [hk 115 qd]
 have k83 : (key == 83) = false := by simp [hk 83 qd]
 have k89 : (key == 89) = false := by simp [hk 89 qd]
 have k105 : (key == 105) = false := by simp [hk 105 qd]
 have k97 : (key == 97) = false := by simp [hk 97 qd]
 have k73 : (key == 73) = false := by simp [hk 73 qd]
 have k65 : (key == 65) = false := by simp [hk 65 qd]
 have k111 : (key == 111) = false := by simp [hk 111 qd]
 have k79 : (key == 79) = false := by simp [hk 79 qd]
 have k112 : (key == 112) = false := by simp [hk 112 qd]
 have k80 : (key == 80) = false := by simp [hk 80 qd]
 have k126 : (key == 126) = false := by simp [hk 126 qd]
 have k74 : (key == 74) = false := by simp [hk 74 qd]
 have k117 : (key == 117) = false := by simp [hk 117 qd]
 have k18 : (key == 18) = false := by simp [hk 18 qd]
 have k46 : (key == 46) = false := by simp [hk 46 qd]
 clear hk h
 go_enter Tryz.func141, Tryz.ntmps141
 go_wp2_with fail
 refine Calls.mono (HC.out _ qRd) ?_
 rintro e w1 ⟨rfl, h1, u1⟩
 exact qt16
theorem qt75 {P : Prop} (h : P := by
  go_wp2_with fail
  refine Calls.mono (HM.out _ qRd) ?_
  rintro e w1 ⟨rfl, h1, u1⟩
  exact qt16
 ) : P := h
theorem mCommand_mark (r d : Nat) (p : Pg) (key : Int) (w : World) (h : RdAt w r d p) (hk : key = 118 ∨ key = 86) :
  Calls Tryz.prog 141 #[.agg #[.pointer (some ⟨r, 0, none⟩)], .int .u8 key] w fun e w' => e = .returned (.int .i64 1) ∧ RdAt w' r d { p with mode := if key = 86 then 3 else 2, anchor := p.pl } ∧ Upd [r, d] w w' := by
 have H := h
 have b0 := h.bg.c0
 have bl := h.bg.lt
 have l1 : r < w.heap.size + 1 := by omega
 rcases hk with hk | hk
 ·have HM : Hid (∀ ww, RdAt ww r d p → Calls Tryz.prog 150 #[.pointer (some ⟨d, 0, none⟩), .int .i64 2] ww fun e w' => e = .returned (.tuple #[]) ∧ RdAt w' r d { p with mode := 2, anchor := p.pl } ∧ Upd [d] ww w') := fun ww hh => mMark r d p 2 ww hh
  subst hk
  rw [if_neg qd]
  generalize hp2 : ({ p with mode := 2, anchor := p.pl } : Pg) = p2 at *
  clear hp2 h
  go_enter Tryz.func141, Tryz.ntmps141
  exact qt75
 ·have HM : Hid (∀ ww, RdAt ww r d p → Calls Tryz.prog 150 #[.pointer (some ⟨d, 0, none⟩), .int .i64 3] ww fun e w' => e = .returned (.tuple #[]) ∧ RdAt w' r d { p with mode := 3, anchor := p.pl } ∧ Upd [d] ww w') := fun ww hh => mMark r d p 3 ww hh
  subst hk
  rw [if_pos rfl]
  generalize hp2 : ({ p with mode := 3, anchor := p.pl } : Pg) = p2 at *
  clear hp2 h
  go_enter Tryz.func141, Tryz.ntmps141
  exact qt75
theorem bTake_normal_esc (b r d : Nat) (tv : Value) (dg : ByteArray) (p : Pg) (w : World) (hb : BdAt w b r d tv dg) (h : RdAt w r d p) (hm : p.mode = 0) :
  Calls Tryz.prog 46 #[.pointer (some ⟨b, 0, none⟩), .int .u8 27] w fun e w' => e = .returned (.int .i64 1) ∧ RdAt w' r d { p.none' with mode := 0, anchor := 0 } ∧ Upd [r, d] w w' := by
 have HO : Hid (∀ ww, BdAt ww b r d tv dg → RdAt ww r d p → qC 64 #[.pointer (some ⟨b, 0, none⟩)] ww (.iface 77 (.agg #[.pointer (some ⟨r, 0, none⟩)]))) := fun ww h1 h2 => mOn_normal b r d tv dg p ww h1 h2 hm
 have HE : Hid (∀ ww, RdAt ww r d p → Calls Tryz.prog 135 #[.pointer (some ⟨r, 0, none⟩)] ww fun e w' => e = .returned (.int .i64 1) ∧ RdAt w' r d { p.none' with mode := 0, anchor := 0 } ∧ Upd [r, d] ww w') := fun ww hh => mEscape r d p ww hh
 generalize hp2 : ({ p.none' with mode := 0, anchor := 0 } : Pg) = p2 at *
 have H := h
 have hmt := meth_normal_escape ⟨r, 0, none⟩
 clear hm h hp2
 go_enter Tryz.func46, Tryz.ntmps46
 go_wp2_with fail
 refine Calls.mono (HO.out _ hb H) ?_
 rintro e w1 ⟨rfl, h1⟩
 go_wp2_with fail
 refine Calls.mono (HE.out _ qRd) ?_
 rintro e w2 ⟨rfl, h2, u2⟩
 exact qt16
theorem bTake_marking_esc (b r d : Nat) (tv : Value) (dg : ByteArray) (p : Pg) (w : World) (hb : BdAt w b r d tv dg) (h : RdAt w r d p) (hm : p.mode = 2 ∨ p.mode = 3) :
  Calls Tryz.prog 46 #[.pointer (some ⟨b, 0, none⟩), .int .u8 27] w fun e w' => e = .returned (.int .i64 1) ∧ RdAt w' r d { p.none' with mode := 0, anchor := 0 } ∧ Upd [r, d] w w' := by
 have HO : Hid (∀ ww, BdAt ww b r d tv dg → RdAt ww r d p → qC 64 #[.pointer (some ⟨b, 0, none⟩)] ww (.iface 81 (.agg #[.pointer (some ⟨r, 0, none⟩)]))) := fun ww h1 h2 => mOn_marking b r d tv dg p ww h1 h2 hm
 have HE : Hid (∀ ww, RdAt ww r d p → Calls Tryz.prog 135 #[.pointer (some ⟨r, 0, none⟩)] ww fun e w' => e = .returned (.int .i64 1) ∧ RdAt w' r d { p.none' with mode := 0, anchor := 0 } ∧ Upd [r, d] ww w') := fun ww hh => mEscape r d p ww hh
 generalize hp2 : ({ p.none' with mode := 0, anchor := 0 } : Pg) = p2 at *
 have H := h
 have hmt := meth_marking_escape ⟨r, 0, none⟩
 clear hm h hp2
 go_enter Tryz.func46, Tryz.ntmps46
 go_wp2_with fail
 refine Calls.mono (HO.out _ hb H) ?_
 rintro e w1 ⟨rfl, h1⟩
 go_wp2_with fail
 refine Calls.mono (HE.out _ qRd) ?_
 rintro e w2 ⟨rfl, h2, u2⟩
 exact qt16
theorem infoU8 : (Tryz.prog.info? 5).map (fun i => (i.zero, i.size, i.bytes)) = some (some (.int .u8 0), 1, 1) := by kernel_rfl
def own (v : Value) : List Nat := v.ownBlock.toList
theorem ownsRow_base {w : World} {a c e s : Nat} {v : Value} {n : Nat} {xs : List Value} (h : w.ownsRow a e s v n xs) (hc : c ≤ a) : w.ownsRow c e s v n xs := by
 refine ⟨h.1, ?_⟩
 rcases h.2 with h2 | ⟨g, cap, cur, h1, h2, h3⟩
 ·exact Or.inl h2
 ·exact Or.inr ⟨g, cap, cur, h1, Nat.le_trans hc h2, h3⟩
theorem ownsRow_upd {S : List Nat} {w w' : World} {e s : Nat} {v : Value} {n : Nat} {xs : List Value} {a : Nat} (h : w.ownsRow a e s v n xs) (hu : Upd S w w') (hn : ∀ k, k ∈ S → v.ownBlock ≠ some k) : w'.ownsRow a e s v n xs := by
 refine ⟨h.1, ?_⟩
 rcases h.2 with h2 | ⟨g, cap, cur, h1, h2, h3, h4⟩
 ·exact Or.inl h2
 ·refine Or.inr ⟨g, cap, cur, h1, h2, ?_, h4⟩
  rw [hu.block g (Array.getElem?_eq_some_iff.1 h3).1 (fun hk => hn g hk (by rw [h1]; rfl))]
  exact h3
theorem owned_some {w : World} {a e s : Nat} {v : Value} {n : Nat} {xs : List Value} (h : w.ownsRow a e s v n xs) (hn : 0 < n) : ∃ g cap, v = .slice (some ⟨g, 0, none⟩) n cap ∧ a ≤ g := by
 rcases h.2 with ⟨_, h2⟩ | ⟨g, cap, cur, h1, h2, _⟩
 ·omega
 ·exact ⟨g, cap, h1, h2⟩
theorem qt29 {P : Prop} (h : P := by
  go_enter Tryz.func47, Tryz.ntmps47
  go_wp2_with (first
   | (at_builtin; refine wpList_append_grows _ rfl (.tmp 24) (.tmp 26) 48 rfl 5 i0 (.int .u8 0) 1 1 Tryz.underlying48 hi hz0 hz1 hz2 rfl qd ao n cap xs rfl hnone HL.out (HO.out _) ⟨w.heap.size, 0, none⟩ 1 1 [.int .u8 key] rfl rfl HN.out (by intro u hu; simp at hu; subst hu; rfl) hc qm qo ?_; intro tv' w1 hown hgrow; obtain ⟨g, cp, rfl, hg⟩ := owned_some hown qo; have U1 : Upd [] (w.alloc (.cells #[.int .u8 key] 5)) w1 := ⟨hgrow.os, hgrow.tape, hgrow.output, hgrow.size, fun k hk _ => hgrow.block k hk qi⟩; have B1 := (HB.alloc (.cells #[.int .u8 key] 5)).upd U1 qi; have e1 := B1.c1; have ez := B1.fz; have hown' : Hid _ := hown; clear hown hgrow hg)
   | fail)
  go_end0
  have hq := ownsRow_setCell_below hown'.out (a := ⟨b, 1, none⟩) qs (.slice (some ⟨g, 0, none⟩) (n + 1) cp)
  rw [show (w.alloc (.cells #[.int .u8 key] 5)).heap.size = w.heap.size + 1 by simp] at hq
  refine ⟨rfl, _, B1.set_tv _, hq, ?_⟩
  refine Upd.setCell (Upd.trans (Upd.alloc (Upd.refl _ _) _) (U1.mono qi)) (Or.inl qi) _
 ) : P := h
theorem mKeep_grow (b r d : Nat) (tv : Value) (dg : ByteArray) (key : Int) (ao : Option Addr) (n cap : Nat) (xs : List Value) (w : World) (hb : BdAt w b r d tv dg) (htv : tv = .slice ao n cap) (hnone : ao = none → n = 0 ∧ cap = 0) (hsome : ∀ a, ao = some a → ∃ g, a = ⟨g, 0, none⟩)
  (ho : w.ownsRow 0 5 1 tv n xs) (hc : cap < n + 1) (hn : n ≤ 17592186044416) :
  Calls Tryz.prog 47 #[.pointer (some ⟨b, 1, none⟩), .int .u8 key, .int .i64 0] w fun e w' => e = .returned (.tuple #[]) ∧ ∃ tv', BdAt w' b r d tv' dg ∧ w'.ownsRow (w.heap.size + 1) 5 1 tv' (n + 1) (xs ++ [.int .u8 key]) ∧ Upd [b] w w' := by
 have HB := hb
 obtain ⟨b0, b1, b2, b3, b4, b5, bz, bl⟩ := hb
 subst htv
 obtain ⟨i0, hi, hz0, hz1, hz2⟩ := info_parts infoU8
 have HL : Hid (xs.length = n * 1) := ho.1
 have HO : Hid (∀ o : Obj, ∀ a, ao = some a → ∀ j u, xs[j]? = some u → (w.alloc o).cell? (a.add j) = some u) := by
  intro o a ha j u hu
  obtain ⟨g, rfl⟩ := hsome a ha
  subst ha
  exact (ho.alloc o).cells (g := g) rfl j u hu
 have HN : Hid (∀ j u, [Value.int .u8 key][j]? = some u → (w.alloc (.cells #[.int .u8 key] 5)).cell? ((⟨w.heap.size, 0, none⟩ : Addr).add j) = some u) := by
  intro j u hj
  match j, hj with
  | 0, hj => simp at hj; subst hj; simp [Addr.add]
 clear ho hsome
 exact qt29
theorem qt33 {P : Prop} (h : P := by
  go_enter Tryz.func47, Tryz.ntmps47
  go_wp2_with (first
   | (at_builtin; refine wpList_append_fits _ rfl (.tmp 24) (.tmp 26) 48 rfl 0 5 i0 1 Tryz.underlying48 hi hz1 g n cap xs rfl (HO.out _) ⟨w.heap.size, 0, none⟩ 1 1 [.int .u8 key] rfl rfl HN.out (by intro u hu; simp at hu; subst hu; rfl) hc ?_; intro w1 hown hgrow; have U1 : Upd [g] (w.alloc (.cells #[.int .u8 key] 5)) w1 := ⟨hgrow.os, hgrow.tape, hgrow.output, hgrow.size, fun k hk hk2 => hgrow.block k hk (by simp at hk2; simp [hk2])⟩; have B1 := (HB.alloc (.cells #[.int .u8 key] 5)).upd U1 (by simp; exact fun e => hgb e.symm); have e1 := B1.c1; have ez := B1.fz; have hown' : Hid _ := hown; clear hown hgrow)
   | fail)
  go_end0
  refine ⟨rfl, B1.set_tv _, ?_, ?_⟩
  ·refine ownsRow_upd hown'.out (Upd.setCell (Upd.refl [b] _) (Or.inl qi) _) ?_
   intro k hk
   simp at hk
   subst hk
   simp [Value.ownBlock, hgb]
  ·refine Upd.setCell (Upd.trans (Upd.alloc (Upd.refl _ _) _) (U1.mono qi)) (Or.inl qi) _
 ) : P := h
theorem mKeep_room (b r d g : Nat) (dg : ByteArray) (key : Int) (n cap : Nat) (xs : List Value) (w : World) (hb : BdAt w b r d (.slice (some ⟨g, 0, none⟩) n cap) dg) (hgb : g ≠ b)
  (ho : w.ownsRow 0 5 1 (.slice (some ⟨g, 0, none⟩) n cap) n xs) (hc : n + 1 ≤ cap) (hn : n ≤ 17592186044416) :
  Calls Tryz.prog 47 #[.pointer (some ⟨b, 1, none⟩), .int .u8 key, .int .i64 0] w fun e w' => e = .returned (.tuple #[]) ∧ BdAt w' b r d (.slice (some ⟨g, 0, none⟩) (n + 1) cap) dg ∧ w'.ownsRow 0 5 1 (.slice (some ⟨g, 0, none⟩) (n + 1) cap) (n + 1) (xs ++ [.int .u8 key]) ∧ Upd [b, g] w w' := by
 have HB := hb
 obtain ⟨b0, b1, b2, b3, b4, b5, bz, bl⟩ := hb
 obtain ⟨i0, hi, hz0, hz1, hz2⟩ := info_parts infoU8
 have HO : Hid (∀ o : Obj, (w.alloc o).ownsRow 0 5 1 (.slice (some ⟨g, 0, none⟩) n cap) n xs) := fun o => ho.alloc o
 have HN : Hid (∀ j u, [Value.int .u8 key][j]? = some u → (w.alloc (.cells #[.int .u8 key] 5)).cell? ((⟨w.heap.size, 0, none⟩ : Addr).add j) = some u) := by
  intro j u hj
  match j, hj with
  | 0, hj => simp at hj; subst hj; simp [Addr.add]
 clear ho
 exact qt33
theorem mKeep_normal (b r d : Nat) (tv : Value) (dg : ByteArray) (key : Int) (n : Nat) (xs : List Value) (w : World) (hb : BdAt w b r d tv dg) (hne : tv.ownBlock ≠ some b)
  (ho : w.ownsRow 0 5 1 tv n xs) (hn : n ≤ 17592186044416) :
  Calls Tryz.prog 47 #[.pointer (some ⟨b, 1, none⟩), .int .u8 key, .int .i64 0] w fun e w' => e = .returned (.tuple #[]) ∧ ∃ tv', BdAt w' b r d tv' dg ∧ w'.ownsRow 0 5 1 tv' (n + 1) (xs ++ [.int .u8 key]) ∧ (tv'.ownBlock = tv.ownBlock ∨ ∃ g, tv'.ownBlock = some g ∧ w.heap.size ≤ g) ∧ Upd (b :: own tv) w w' := by
 rcases ho.2 with ⟨rfl, rfl⟩ | ⟨g, cap, cur, rfl, h1, h2, h3, h4⟩
 ·refine Calls.mono (mKeep_grow b r d _ dg key none 0 0 xs w hb rfl (fun _ => ⟨rfl, rfl⟩) (fun a h => by cases h) ho qo hn) ?_
  rintro e w' ⟨rfl, tv', hB, hO, hU⟩
  obtain ⟨g, cp, rfl, hg⟩ := owned_some hO qo
  exact ⟨rfl, _, hB, ownsRow_base hO (Nat.zero_le _), Or.inr ⟨g, rfl, by omega⟩, hU.mono qi⟩
 ·by_cases hc : n + 1 ≤ cap
  ·have hgb : g ≠ b := fun e => hne (by rw [e]; rfl)
   refine Calls.mono (mKeep_room b r d g dg key n cap xs w hb hgb ho hc hn) ?_
   rintro e w' ⟨rfl, hB, hO, hU⟩
   exact ⟨rfl, _, hB, hO, Or.inl rfl, hU.mono (by simp [own, Value.ownBlock])⟩
  ·refine Calls.mono (mKeep_grow b r d _ dg key (some ⟨g, 0, none⟩) n cap xs w hb rfl (fun h => by cases h) (fun a h => ⟨g, by simpa using h.symm⟩) ho qo hn) ?_
   rintro e w' ⟨rfl, tv', hB, hO, hU⟩
   obtain ⟨g', cp, rfl, hg⟩ := owned_some hO qo
   exact ⟨rfl, _, hB, ownsRow_base hO (Nat.zero_le _), Or.inr ⟨g', rfl, by omega⟩, hU.mono qi⟩
theorem mKeep_not (b r d : Nat) (tv : Value) (dg : ByteArray) (key mode : Int) (w : World) (hb : BdAt w b r d tv dg) (hm : mode = 2 ∨ mode = 3) :
  qC 47 #[.pointer (some ⟨b, 1, none⟩), .int .u8 key, .int .i64 mode] w (.tuple #[]) := by
 obtain ⟨b0, b1, b2, b3, b4, b5, bz, bl⟩ := hb
 rcases hm with hm | hm
 all_goals
  subst hm
  go_enter Tryz.func47, Tryz.ntmps47
  go_wp2
  go_end0
  exact ⟨rfl, Below.refl _ _⟩
theorem mEnd (b r d : Nat) (tv : Value) (dg : ByteArray) (O : Int) (w : World) (hb : BdAt w b r d tv dg) (hO : ¬ O = 2) :
  Calls Tryz.prog 48 #[.pointer (some ⟨b, 1, none⟩), .int .i64 O] w fun e w' => e = .returned (.tuple #[]) ∧ BdAt w' b r d (.slice none 0 0) dg ∧ Upd [b] w w' := by
 have HS := hb.set_tv (.slice none 0 0)
 obtain ⟨b0, b1, b2, b3, b4, b5, bz, bl⟩ := hb
 have hO' : (O == 2) = false := by simp [hO]
 clear hO
 go_enter Tryz.func48, Tryz.ntmps48
 go_wp2
 go_end0
 refine ⟨rfl, HS, ?_⟩
 repeat exact qU
theorem hKeep_same (r d : Nat) (p : Pg) (w : World) (h : RdAt w r d p) (hn : p.now = p.t) :
  qC 49 #[.pointer (some ⟨d, 5, none⟩), .string p.t] w (.tuple #[]) := by
 obtain ⟨c0, c1, c2, c3, c4, c5, c6, c7, c8, c9, fz, lt⟩ := h.dk
 rw [hn] at c5
 clear c0 c1 c2 c3 c4 c6 c7 c8 c9 h hn
 go_enter Tryz.func49, Tryz.ntmps49
 go_wp2
 first | go_end0 | refine bodyPost_ret (results_none rfl _ _ _) rfl ?_
 exact ⟨rfl, Below.refl _ _⟩
def casS (F : UInt8 → UInt8) (s : ByteArray) (i j : Nat) : ByteArray := s.extract 0 i ++ ⟨((s.extract i j).data.toList.map F).toArray⟩ ++ s.extract j s.size
theorem casS_size {F : UInt8 → UInt8} {s : ByteArray} {i j : Nat} (h : i ≤ j) (hj : j ≤ s.size) : (casS F s i j).size = s.size := by
 unfold casS
 have h1 : (⟨((s.extract i j).data.toList.map F).toArray⟩ : ByteArray).size = j - i := by
  show ((s.extract i j).data.toList.map F).toArray.size = _
  have : (s.extract i j).size = j - i := by rw [ByteArray.size_extract]; omega
  rw [List.size_toArray, List.length_map, Array.length_toList]
  exact this
 rw [ByteArray.size_append, ByteArray.size_append, h1, ByteArray.size_extract, ByteArray.size_extract]
 omega
theorem qt25 {P : Prop} (h : P := by
  generalize s.extract i j = O at *
  clear HW hms hos
  go_enter Tryz.func174, Tryz.ntmps174
  have g0 : (w.alloc (.cells #[.int .i64 i, .int .i64 j, .bool l] 186)).cell? ⟨w.heap.size, 0, none⟩ = some (.int .i64 i) := by simp
  have g1 : (w.alloc (.cells #[.int .i64 i, .int .i64 j, .bool l] 186)).cell? ⟨w.heap.size, 1, none⟩ = some (.int .i64 j) := by simp
  have g2 : (w.alloc (.cells #[.int .i64 i, .int .i64 j, .bool l] 186)).cell? ⟨w.heap.size, 2, none⟩ = some (.bool l) := by simp
  go_wp2_with fail
  go_region_held3 (fun ww => ww.cell? ⟨w.heap.size, 0, none⟩ = some (.int .i64 i) ∧ ww.cell? ⟨w.heap.size, 1, none⟩ = some (.int .i64 j) ∧ ww.cell? ⟨w.heap.size, 2, none⟩ = some (.bool l)) (exact qK) (first | (go_at_call 87; refine Calls.mono (HO.out _) ?_; rintro r1 w1 ⟨rfl, h1⟩; have hz1 := h1.size; (try simp at hz1); (try have ⟨hl1_0, hk1_0⟩ := qL w.heap.size w1.heap.size)) | (go_at_call 193; refine Calls.mono (HE.out _) ?_; rintro r2 w2 ⟨rfl, h2⟩; have hz2 := h2.size; (try simp at hz2); (try have ⟨hl2_0, hk2_0⟩ := qL w.heap.size w2.heap.size)) | (go_at_call 192; refine Calls.mono (HW1.out _) ?_; rintro r3 w3 ⟨rfl, h3⟩; have hz3 := h3.size; (try simp at hz3); (try have ⟨hl3_0, hk3_0⟩ := qL w.heap.size w3.heap.size)) | (go_at_call 221; refine Calls.mono (HB.out _) ?_; rintro r4 w4 ⟨rfl, h4⟩; have hz4 := h4.size; (try simp at hz4); (try have ⟨hl4_0, hk4_0⟩ := qL w.heap.size w4.heap.size)))
  go_wp2
  exact qV (.tuple #[.string X, .int .i64 q]) (by simp [results, Tryz.results174, go_sem]) rfl
 ) : P := h
theorem vDo_case (v : Int) (s : ByteArray) (i j : Nat) (p q : Int) (l : Bool) (w : World) (hs : s.size ≤ 1000) (h : i ≤ j) (hj : j ≤ s.size) (hv : v = 117 ∨ v = 85)
  (HB : qH 221 #[.string s, .agg #[.int .i64 i, .int .i64 j, .bool l], .int .i64 p] (.int .i64 q)) :
  qC 174 #[.int .u8 v, .string s, .agg #[.int .i64 i, .int .i64 j, .bool l], .int .i64 p] w (.tuple #[.string (casS (if v = 117 then smallU else greatU) s i j), .int .i64 q]) := by
 have HO : qH 87 #[.string s, .agg #[.int .i64 (i), .int .i64 (j)]] (.string (s.extract i j)) := fun ww => tOf_any s i j i j ww hs rfl rfl h hj
 have hos : (s.extract i j).size ≤ 1000 := by rw [ByteArray.size_extract]; omega
 have hms : ∀ F : UInt8 → UInt8, (⟨((s.extract i j).data.toList.map F).toArray⟩ : ByteArray).size ≤ 1000 := by
  intro F
  show ((s.extract i j).data.toList.map F).toArray.size ≤ 1000
  rw [List.size_toArray, List.length_map, Array.length_toList]
  exact hos
 have HW : ∀ F : UInt8 → UInt8, qH 192 #[.string s, .agg #[.int .i64 (i), .int .i64 (j)], .string ⟨((s.extract i j).data.toList.map F).toArray⟩] (.string (casS F s i j)) := fun F ww => tWith_any s _ i j i j ww hs (by have := hms F; omega) rfl rfl h hj
 rcases hv with hv | hv
 ·subst hv
  rw [if_pos rfl]
  have HE : qH 193 #[.string (s.extract i j), .func (.func 220) #[] #[]] (.string ⟨((s.extract i j).data.toList.map smallU).toArray⟩) := fun ww => tEach _ _ smallU ww hos (enters_of Tryz.func220 qk rfl) (fun c w2 => tSmall c w2)
  have HW1 := HW smallU
  generalize casS smallU s i j = X at *
  generalize (⟨((s.extract i j).data.toList.map smallU).toArray⟩ : ByteArray) = A at *
  exact qt25
 ·subst hv
  rw [if_neg qd]
  have HE : qH 193 #[.string (s.extract i j), .func (.func 222) #[] #[]] (.string ⟨((s.extract i j).data.toList.map greatU).toArray⟩) := fun ww => tEach _ _ greatU ww hos (enters_of Tryz.func222 qk rfl) (fun c w2 => tGreat c w2)
  have HW1 := HW greatU
  generalize casS greatU s i j = X at *
  generalize (⟨((s.extract i j).data.toList.map greatU).toArray⟩ : ByteArray) = A at *
  exact qt25
theorem lastIB_big (s : ByteArray) (c : Int) (w : World) (hs : s.size ≤ 1000000) :
  Calls Tryz.prog 268 #[.string s, .int .u8 c] w fun e w' => e = .returned (.int .i64 (((Nib.dn (fun i => Nib.bt s i != c) s.size : Nat) : Int) - 1)) ∧ w' = w := by
 exact qt22
theorem lastIndexByte_big (s : ByteArray) (c : Int) (w : World) (hs : s.size ≤ 1000000) :
  Calls Tryz.prog 228 #[.string s, .int .u8 c] w fun e w' => e = .returned (.int .i64 (((Nib.dn (fun i => Nib.bt s i != c) s.size : Nat) : Int) - 1)) ∧ w' = w := by
 go_enter Tryz.func228, Tryz.ntmps228
 go_wp2_with fail
 refine (lastIB_big s c w hs).mono ?_
 rintro e w' ⟨rfl, rfl⟩
 go_wp2
 go_ret
 exact ⟨rfl, rfl⟩
theorem tLine_big (s : ByteArray) (p : Int) (k : Nat) (w : World) (hs : s.size ≤ 1000000) (e : p = k) (hk : k ≤ s.size) :
  qC 195 #[.string s, .int .i64 p] w (.agg #[.int .i64 (Nib.beg s k), .int .i64 (Nib.fin s k)]) := by
 subst e
 have h1 : (s.extract 0 k).size = k := by rw [ByteArray.size_extract]; omega
 have h2 : (s.extract k s.size).size = s.size - k := by rw [ByteArray.size_extract]; omega
 have HB : Hid (((Nib.dn (fun i => Nib.bt (s.extract 0 k) i != 10) (s.extract 0 k).size : Nat) : Int) = Nib.beg s k) := by rw [Hid, h1, Nib.dn_cut hk]
 have HF : Hid (firstIdx (s.extract k s.size) (10 : Int).toNat.toUInt8 = if Nib.fin s k < s.size then ((Nib.fin s k : Nat) : Int) - k else -1) := by
  have := Nib.fin_ge s k
  rw [Hid, Nib.first_up _ 10 qo qo, h2, Nib.up_cut hk]
  by_cases h : Nib.fin s k < s.size
  ·rw [if_pos h, if_pos qo]; omega
  ·rw [if_neg h, if_neg qo]
 have hbl := Nib.beg_le s k
 have hfl := Nib.fin_le hk
 have hfg := Nib.fin_ge s k
 have HE : ¬ Nib.fin s k < s.size → Nib.fin s k = s.size := by omega
 generalize Nib.beg s k = B at *
 generalize Nib.fin s k = F at *
 go_enter Tryz.func195, Tryz.ntmps195
 go_wp2_with fail
 refine (lastIndexByte_big (s.extract 0 k) 10 _ qo).mono ?_
 exact qt38
theorem tLast_big (a b : Int) (w : World) (h : -5000000 ≤ b ∧ b ≤ 5000000) :
  qC 202 #[.agg #[.int .i64 (a), .int .i64 (b)]] w (.int .i64 (max a (b - 1))) := by
 exact qt54
theorem tIndent_big (s : ByteArray) (a b : Int) (k : Nat) (w : World) (hs : s.size ≤ 1000000) (hk : k ≤ s.size) (ea : a = Nib.beg s k) (eb : b = Nib.fin s k) :
  qC 187 #[.string s, .agg #[.int .i64 (a), .int .i64 (b)]] w (.agg #[.int .i64 (Nib.beg s k), .int .i64 (Nib.ind s k)]) := by
 exact qt15
theorem tFirst_big (s : ByteArray) (a b : Int) (k : Nat) (w : World) (hs : s.size ≤ 1000000) (hk : k ≤ s.size) (ea : a = Nib.beg s k) (eb : b = Nib.fin s k) :
  qC 243 #[.string s, .agg #[.int .i64 (a), .int .i64 (b)]] w (.int .i64 (Nib.frs s k)) := by
 subst ea eb
 have hf := Nib.fin_le hk
 have HF := Nib.frs_min s k hk
 rw [Nib.lst_max] at HF
 have HI : qH 187 #[.string s, .agg #[.int .i64 (Nib.beg s k), .int .i64 (Nib.fin s k)]] (.agg #[.int .i64 (Nib.beg s k), .int .i64 (Nib.ind s k)]) := fun ww => tIndent_big s _ _ k ww hs hk rfl rfl
 have HL : qH 202 #[.agg #[.int .i64 (Nib.beg s k), .int .i64 (Nib.fin s k)]] (.int .i64 (max ((Nib.beg s k : Nat) : Int) (((Nib.fin s k : Nat) : Int) - 1))) := fun ww => tLast_big _ _ ww qo
 exact qt23
theorem mLead_no (r d : Nat) (p : Pg) (w : World) (h : RdAt w r d p) (hw : waits p = true) :
  qC 149 #[.pointer (some ⟨r, 1, none⟩)] w (.int .i64 4) := by
 have HW : Hid (∀ ww, RdAt ww r d p → qC 39 #[.pointer (some ⟨r, 1, none⟩)] ww (.bool true)) := by
  intro ww hh
  have := mWaiting r d p ww hh
  rw [hw] at this
  exact this
 go_enter Tryz.func149, Tryz.ntmps149
 go_wp2_with fail
 refine Calls.mono (HW.out _ qRd) ?_
 rintro e w1 ⟨rfl, h1⟩
 go_wp2
 go_ret
 refine ⟨rfl, ?_⟩
 repeat exact qB
theorem mLead_yes (r d : Nat) (p : Pg) (w : World) (h : RdAt w r d p) (hw : waits p = false) :
  Calls Tryz.prog 149 #[.pointer (some ⟨r, 1, none⟩)] w fun e w' => e = .returned (.int .i64 0) ∧ RdAt w' r d { p with part := 34 } ∧ Upd [r] w w' := by
 have HW : Hid (∀ ww, RdAt ww r d p → qC 39 #[.pointer (some ⟨r, 1, none⟩)] ww (.bool false)) := by
  intro ww hh
  have := mWaiting r d p ww hh
  rw [hw] at this
  exact this
 have HA : Hid (∀ ww, RdAt ww r d p → Calls Tryz.prog 142 #[.pointer (some ⟨r, 1, none⟩), .int .u8 34] ww fun e w' => e = .returned (.int .i64 0) ∧ RdAt w' r d { p with part := 34 } ∧ Upd [r] ww w') := fun ww hh => mAwait r d p 34 ww hh
 go_enter Tryz.func149, Tryz.ntmps149
 go_wp2_with fail
 refine Calls.mono (HW.out _ qRd) ?_
 rintro e w1 ⟨rfl, h1⟩
 go_wp2_with fail
 refine Calls.mono (HA.out _ qRd) ?_
 rintro e w2 ⟨rfl, h2, u2⟩
 exact qt16
theorem mName_no (r : Nat) (key : Int) (w : World) (h1 : ¬ key = 34) (h2 : key < 97 ∨ 122 < key) :
  qC 165 #[.pointer (some ⟨r, 1, none⟩), .int .u8 key] w (.int .i64 4) := by
 rcases h2 with h2 | h2
 ·go_enter Tryz.func165, Tryz.ntmps165
  go_wp2
  all_goals
   go_ret
   refine ⟨rfl, ?_⟩
   repeat exact qB
 ·have h3 : ¬ key < 97 := by omega
  go_enter Tryz.func165, Tryz.ntmps165
  go_wp2
  all_goals
   go_ret
   refine ⟨rfl, ?_⟩
   repeat exact qB
theorem mName_yes (r d : Nat) (p : Pg) (key : Int) (w : World) (h : RdAt w r d p) (hk : key = 34 ∨ (97 ≤ key ∧ key ≤ 122)) :
  Calls Tryz.prog 165 #[.pointer (some ⟨r, 1, none⟩), .int .u8 key] w fun e w' => e = .returned (.int .i64 0) ∧ RdAt w' r d { p with reg := key, part := 0 } ∧ Upd [r] w w' := by
 have HA : Hid (∀ ww, RdAt ww r d { p with reg := key } → Calls Tryz.prog 142 #[.pointer (some ⟨r, 1, none⟩), .int .u8 0] ww fun e w' => e = .returned (.int .i64 0) ∧ RdAt w' r d { p with reg := key, part := 0 } ∧ Upd [r] ww w') := fun ww hh => mAwait r d { p with reg := key } 0 ww hh
 have HS := h.set_reg key
 have b1 := h.bg.c1
 have bz := h.bg.fz
 have bl := h.bg.lt
 generalize hP : ({ p with reg := key, part := 0 } : Pg) = p2 at *
 clear hP
 rcases hk with hk | hk
 ·subst hk
  go_enter Tryz.func165, Tryz.ntmps165
  go_wp2_with fail
  refine Calls.mono (HA.out _ qRd) ?_
  rintro e w2 ⟨rfl, h2, u2⟩
  exact qt16
 ·have k1 : ¬ key = 34 := by omega
  have k2 : ¬ key < 97 := by omega
  have k3 : ¬ 122 < key := by omega
  go_enter Tryz.func165, Tryz.ntmps165
  go_wp2_with fail
  refine Calls.mono (HA.out _ qRd) ?_
  rintro e w2 ⟨rfl, h2, u2⟩
  exact qt16
theorem mEnds (r d : Nat) (p : Pg) (w : World) (h : RdAt w r d p) (hs : p.t.size ≤ 1000) (ha : p.anchor ≤ p.t.size) :
  Calls Tryz.prog 311 #[.agg #[.pointer (some ⟨r, 0, none⟩)]] w fun e w' => e = .returned (.int .i64 1) ∧ RdAt w' r d { p with anchor := p.pl, pl := Nib.clm p.t p.anchor } ∧ Upd [d] w w' := by
 have HM : Hid (∀ ww, RdAt ww r d { p with anchor := p.pl } → Calls Tryz.prog 179 #[.pointer (some ⟨d, 0, none⟩), .int .i64 p.anchor] ww fun e w' => e = .returned (.tuple #[]) ∧ RdAt w' r d { p with anchor := p.pl, pl := Nib.clm p.t p.anchor } ∧ Upd [d] ww w') := fun ww hh => mMoveTo r d { p with anchor := p.pl } p.anchor p.anchor ww hh hs rfl ha
 have HS : Hid (∀ ww, RdAt ww r d p → RdAt (ww.setCell ⟨d, 2, none⟩ (.int .i64 p.pl)) r d { p with anchor := p.pl }) := fun ww hh => hh.set_anchor p.pl
 have H := h
 have b0 := h.bg.c0
 have bl := h.bg.lt
 have c1 := h.dk.c1
 have c2 := h.dk.c2
 have fz := h.dk.fz
 have dl := h.dk.lt
 have l1 : r < w.heap.size + 1 := by omega
 have l2 : d < w.heap.size + 1 := by omega
 generalize hP : ({ p with anchor := p.pl, pl := Nib.clm p.t p.anchor } : Pg) = p2 at *
 generalize hP3 : ({ p with anchor := p.pl } : Pg) = p3 at *
 clear hP hP3
 go_enter Tryz.func311, Tryz.ntmps311
 have g0 : (w.alloc (.cells #[.pointer (some ⟨r, 0, none⟩)] 81)).cell? ⟨w.heap.size, 0, none⟩ = some (.pointer (some ⟨r, 0, none⟩)) := by simp
 go_wp2_with fail
 go_region_held3 (fun ww => ww.cell? ⟨w.heap.size, 0, none⟩ = some (.pointer (some ⟨r, 0, none⟩)) ∧ ww.cell? ⟨r, 0, none⟩ = some (.pointer (some ⟨d, 0, none⟩)) ∧ ww.cell? ⟨d, 1, none⟩ = some (.int .i64 p.pl)) (exact qK) (fail)
 have HS2 := HS.out w H
 have hsz : (w.setCell ⟨d, 2, none⟩ (.int .i64 p.pl)).heap.size = w.heap.size := by simp [World.setCell]
 go_wp2_with fail
 refine Calls.mono (HM.out _ qRd) ?_
 rintro e w2 ⟨rfl, h2, u2⟩
 exact qt16
end Go.Proofs.YtlendfhehhacpaaGreat
