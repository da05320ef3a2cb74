/- A part. -/
import Derived.Test.YtlendfhehhacpaaGreatU14
set_option linter.unusedVariables false
set_option linter.unusedSimpArgs false
set_option maxRecDepth 100000
set_option maxHeartbeats 8000000
namespace Go.Proofs.YtlendfhehhacpaaGreat
open Go.RowKit Nib Tryz
theorem mWay_again (r d : Nat) (p : Pg) (R : Int × Int × Bool) (w : World) (h : RdAt w r d p) (hn : p.n ≤ 99) (hb : p.behind ≤ 99) (hs : p.t.size ≤ 1000) (hv : p.verb = 0)
  (hR : R.2.2 = false → 0 ≤ R.1 ∧ R.1 ≤ p.t.size)
  (HG : qH 183 #[.agg #[.int .u8 p.fnd, .int .u8 p.findC], .agg #[.string p.t, .int .i64 (p.pl), .int .i64 (cnt p), .bool false, .bool false]] (.tuple #[.agg #[.int .i64 (wayX (R)), .int .i64 (wayK (R))], .bool (wayZ (R))])) :
  Calls Tryz.prog 148 #[.pointer (some ⟨r, 0, none⟩), .int .u8 59] w fun e w' =>
   e = .returned (.int .i64 (if R.2.2 = true then 4 else 1)) ∧ RdAt w' r d (arrEd p R) ∧ Upd [d] w w' := by
 have H := h
 have HS : Hid (∀ ww, RdAt ww r d p → qC 168 #[.pointer (some ⟨r, 0, none⟩)] ww (.agg #[.string p.t, .int .i64 (p.pl), .int .i64 (cnt p), .bool false, .bool false])) := by
  intro ww hh
  have := mStart r d p ww hh hn hb
  rw [hv] at this
  exact this
 have HA : Hid (∀ ww, RdAt ww r d p → Calls Tryz.prog 166 #[.pointer (some ⟨r, 0, none⟩), .agg #[.int .i64 (wayX R), .int .i64 (wayK R)], .bool (wayZ R)] ww fun e w' =>
   e = .returned (.int .i64 (if R.2.2 = true then 4 else 1)) ∧ RdAt w' r d (arrEd p R) ∧ Upd [d] ww w') := fun ww hh => mArrive r d p R ww hh hs hv hR
 have f1 : (arrEd p R).fnd = p.fnd := by unfold arrEd; split <;> rfl
 have f2 : (arrEd p R).findC = p.findC := by unfold arrEd; split <;> rfl
 generalize (if R.2.2 = true then (4 : Int) else 1) = O at *
 generalize arrEd p R = p2 at *
 generalize wayX R = X at *
 generalize wayK R = K at *
 generalize wayZ R = Z at *
 obtain ⟨c0, c1, c2, c3, c4, c5, c6, c7, c8, c9, fz, lt⟩ := h.dk
 obtain ⟨b0, b1, b2, b3, b4, b5, bz, bl⟩ := h.bg
 clear c0 c1 c2 c3 c4 c5 c6 c7 b1 b2 b3 b4 b5 hv hR h
 go_enter func148, ntmps148
 go_wp2_with fail
 go_region_held3 (fun ww => ww.cell? ⟨r, 0, none⟩ = some (.pointer (some ⟨d, 0, none⟩)) ∧ ww.cell? ⟨d, 8, none⟩ = some (.int .u8 p.fnd) ∧ ww.cell? ⟨d, 9, none⟩ = some (.int .u8 p.findC)) (exact qK) (first | (go_at_call 168; refine Calls.mono (HS.out _ qRd) ?_; rintro r1 w1 ⟨rfl, h1⟩; have hz1 := h1.size; (try simp at hz1); (try have ⟨hl1_0, hk1_0⟩ := qL d w1.heap.size); (try have ⟨hl1_1, hk1_1⟩ := qL r w1.heap.size)) | (go_at_call 183; refine Calls.mono (HG.out _) ?_; rintro r2 w2 ⟨rfl, h2⟩; have hz2 := h2.size; (try simp at hz2); (try have ⟨hl2_0, hk2_0⟩ := qL d w2.heap.size); (try have ⟨hl2_1, hk2_1⟩ := qL r w2.heap.size)) | (go_at_call 166; refine Calls.mono (HA.out _ qRd) ?_; rintro r3 w3 ⟨rfl, h3, u3⟩; have hz3 := u3.size; (try simp at hz3); have g0 := h3.bg.c0; have g8 := h3.dk.c8; have g9 := h3.dk.c9; rw [f1] at g8; rw [f2] at g9))
 exact qt13
theorem mWay_turned (r d : Nat) (p : Pg) (K1 : Int) (R : Int × Int × Bool) (w : World) (h : RdAt w r d p) (hn : p.n ≤ 99) (hb : p.behind ≤ 99) (hs : p.t.size ≤ 1000) (hv : p.verb = 0)
  (hR : R.2.2 = false → 0 ≤ R.1 ∧ R.1 ≤ p.t.size)
  (HT : qH 184 #[.agg #[.int .u8 p.fnd, .int .u8 p.findC]] (.agg #[.int .u8 K1, .int .u8 p.findC]))
  (HG : qH 183 #[.agg #[.int .u8 K1, .int .u8 p.findC], .agg #[.string p.t, .int .i64 (p.pl), .int .i64 (cnt p), .bool false, .bool false]] (.tuple #[.agg #[.int .i64 (wayX (R)), .int .i64 (wayK (R))], .bool (wayZ (R))])) :
  Calls Tryz.prog 148 #[.pointer (some ⟨r, 0, none⟩), .int .u8 44] w fun e w' =>
   e = .returned (.int .i64 (if R.2.2 = true then 4 else 1)) ∧ RdAt w' r d (arrEd p R) ∧ Upd [d] w w' := by
 have H := h
 have HS : Hid (∀ ww, RdAt ww r d p → qC 168 #[.pointer (some ⟨r, 0, none⟩)] ww (.agg #[.string p.t, .int .i64 (p.pl), .int .i64 (cnt p), .bool false, .bool false])) := by
  intro ww hh
  have := mStart r d p ww hh hn hb
  rw [hv] at this
  exact this
 have HA : Hid (∀ ww, RdAt ww r d p → Calls Tryz.prog 166 #[.pointer (some ⟨r, 0, none⟩), .agg #[.int .i64 (wayX R), .int .i64 (wayK R)], .bool (wayZ R)] ww fun e w' =>
   e = .returned (.int .i64 (if R.2.2 = true then 4 else 1)) ∧ RdAt w' r d (arrEd p R) ∧ Upd [d] ww w') := fun ww hh => mArrive r d p R ww hh hs hv hR
 have f1 : (arrEd p R).fnd = p.fnd := by unfold arrEd; split <;> rfl
 have f2 : (arrEd p R).findC = p.findC := by unfold arrEd; split <;> rfl
 generalize (if R.2.2 = true then (4 : Int) else 1) = O at *
 generalize arrEd p R = p2 at *
 generalize wayX R = X at *
 generalize wayK R = K at *
 generalize wayZ R = Z at *
 obtain ⟨c0, c1, c2, c3, c4, c5, c6, c7, c8, c9, fz, lt⟩ := h.dk
 obtain ⟨b0, b1, b2, b3, b4, b5, bz, bl⟩ := h.bg
 clear c0 c1 c2 c3 c4 c5 c6 c7 b1 b2 b3 b4 b5 hv hR h
 go_enter func148, ntmps148
 go_wp2_with fail
 refine Calls.mono (HT.out _) ?_
 rintro e w4 ⟨rfl, h4⟩
 exact qt31
theorem mComplete_gg (r d : Nat) (p : Pg) (R : Int × Int × Bool) (w : World) (h : RdAt w r d p) (hn : p.n ≤ 99) (hb : p.behind ≤ 99) (hs : p.t.size ≤ 1000) (hv : p.verb = 0) (hp : p.part = 103)
  (hR : R.2.2 = false → 0 ≤ R.1 ∧ R.1 ≤ p.t.size)
  (HG : qH 169 #[.int .u8 103, .agg #[.string p.t, .int .i64 (p.pl), .int .i64 (cnt p), .bool false, .bool false]] (.tuple #[.agg #[.int .i64 (wayX (R)), .int .i64 (wayK (R))], .bool (wayZ (R))])) :
  Calls Tryz.prog 145 #[.pointer (some ⟨r, 0, none⟩), .int .u8 103] w fun e w' =>
   e = .returned (.int .i64 (if R.2.2 = true then 4 else 1)) ∧ RdAt w' r d (arrEd p R) ∧ Upd [d] w w' := by
 have H := h
 have HS : Hid (∀ ww, RdAt ww r d p → qC 168 #[.pointer (some ⟨r, 0, none⟩)] ww (.agg #[.string p.t, .int .i64 (p.pl), .int .i64 (cnt p), .bool false, .bool false])) := by
  intro ww hh
  have := mStart r d p ww hh hn hb
  rw [hv] at this
  exact this
 have HA : Hid (∀ ww, RdAt ww r d p → Calls Tryz.prog 166 #[.pointer (some ⟨r, 0, none⟩), .agg #[.int .i64 (wayX R), .int .i64 (wayK R)], .bool (wayZ R)] ww fun e w' =>
   e = .returned (.int .i64 (if R.2.2 = true then 4 else 1)) ∧ RdAt w' r d (arrEd p R) ∧ Upd [d] ww w') := fun ww hh => mArrive r d p R ww hh hs hv hR
 generalize (if R.2.2 = true then (4 : Int) else 1) = O at *
 generalize arrEd p R = p2 at *
 generalize wayX R = X at *
 generalize wayK R = K at *
 generalize wayZ R = Z at *
 obtain ⟨b0, b1, b2, b3, b4, b5, bz, bl⟩ := h.bg
 rw [hp] at b5
 clear b1 b2 b3 b4 hv hR h hp
 go_enter func145, ntmps145
 exact qt31
theorem mComplete_g (r d : Nat) (p : Pg) (key : Int) (w : World) (h : RdAt w r d p) (hp : p.part = 103) (hk : ¬ key = 103) :
  qC 145 #[.pointer (some ⟨r, 0, none⟩), .int .u8 key] w (.int .i64 4) := by
 obtain ⟨b0, b1, b2, b3, b4, b5, bz, bl⟩ := h.bg
 rw [hp] at b5
 have hk' : (key == 103) = false := by simp [hk]
 clear b1 b2 b3 b4 h hp hk
 go_enter func145, ntmps145
 go_wp2
 exact qV (.int .i64 4) (by simp [results, results145, go_sem]) rfl
theorem mComplete_find (r d : Nat) (p : Pg) (key : Int) (R : Int × Int × Bool) (w : World) (h : RdAt w r d p) (hn : p.n ≤ 99) (hb : p.behind ≤ 99) (hs : p.t.size ≤ 1000) (hv : p.verb = 0) (hp : isFind p.part = true)
  (hR : R.2.2 = false → 0 ≤ R.1 ∧ R.1 ≤ p.t.size)
  (HG : qH 167 #[.agg #[.int .u8 p.part, .int .u8 key], .agg #[.string p.t, .int .i64 (p.pl), .int .i64 (cnt p), .bool false, .bool false]] (.tuple #[.agg #[.int .i64 (wayX (R)), .int .i64 (wayK (R))], .bool (wayZ (R))])) :
  Calls Tryz.prog 145 #[.pointer (some ⟨r, 0, none⟩), .int .u8 key] w fun e w' =>
   e = .returned (.int .i64 (if R.2.2 = true then 4 else 1)) ∧ RdAt w' r d (arrEd { p with fnd := p.part, findC := key } R) ∧ Upd [d] w w' := by
 have H0 := h
 have HP : Hid (∀ ww, RdAt ww r d p → RdAt ((ww.setCell ⟨d, 8, none⟩ (.int .u8 p.part)).setCell ⟨d, 9, none⟩ (.int .u8 key)) r d { p with fnd := p.part, findC := key }) := fun ww hh => (hh.set_fnd p.part).set_findC key
 have HS : Hid (∀ ww, RdAt ww r d { p with fnd := p.part, findC := key } → qC 168 #[.pointer (some ⟨r, 0, none⟩)] ww (.agg #[.string p.t, .int .i64 (p.pl), .int .i64 (cnt p), .bool false, .bool false])) := by
  intro ww hh
  have := mStart r d { p with fnd := p.part, findC := key } ww hh hn hb
  simp only [hv] at this
  exact this
 have HA : Hid (∀ ww, RdAt ww r d { p with fnd := p.part, findC := key } → Calls Tryz.prog 166 #[.pointer (some ⟨r, 0, none⟩), .agg #[.int .i64 (wayX R), .int .i64 (wayK R)], .bool (wayZ R)] ww fun e w' =>
   e = .returned (.int .i64 (if R.2.2 = true then 4 else 1)) ∧ RdAt w' r d (arrEd { p with fnd := p.part, findC := key } R) ∧ Upd [d] ww w') := fun ww hh => mArrive r d { p with fnd := p.part, findC := key } R ww hh hs hv hR
 have f1 : (arrEd { p with fnd := p.part, findC := key } R).fnd = p.part := by unfold arrEd; split <;> rfl
 have f2 : (arrEd { p with fnd := p.part, findC := key } R).findC = key := by unfold arrEd; split <;> rfl
 generalize (if R.2.2 = true then (4 : Int) else 1) = O at *
 generalize arrEd { p with fnd := p.part, findC := key } R = p2 at *
 generalize hp1 : ({ p with fnd := p.part, findC := key } : Pg) = p1 at *
 have f3 : p1.fnd = p.part := by rw [← hp1]
 have f4 : p1.findC = key := by rw [← hp1]
 clear hp1
 generalize wayX R = X at *
 generalize wayK R = K at *
 generalize wayZ R = Z at *
 obtain ⟨c0, c1, c2, c3, c4, c5, c6, c7, c8, c9, fz, lt⟩ := h.dk
 obtain ⟨b0, b1, b2, b3, b4, b5, bz, bl⟩ := h.bg
 clear c0 c1 c2 c3 c4 c5 c6 c7 b1 b2 b3 b4 hv hR h
 simp only [isFind, Bool.or_eq_true, beq_iff_eq] at hp
 generalize p.part = part at *
 generalize p.t = T at *
 generalize p.pl = PL at *
 generalize cnt p = N at *
 have nrd := H0.ne
 have nrd1 : ¬ r = d := nrd
 have nrd2 : ¬ d = r := Ne.symm nrd
 clear nrd
 rcases hp with ((hp | hp) | hp) | hp
 ·subst hp
  go_enter func145, ntmps145
  go_wp2_with fail
  go_region_held3 (fun ww => ww.cell? ⟨r, 0, none⟩ = some (.pointer (some ⟨d, 0, none⟩)) ∧ ww.cell? ⟨r, 5, none⟩ = some (.int .u8 102)) (exact qK) (fail)
  go_wp2_with fail
  go_region_held3 (fun ww => ww.cell? ⟨r, 0, none⟩ = some (.pointer (some ⟨d, 0, none⟩)) ∧ ww.cell? ⟨d, 8, none⟩ = some (.int .u8 102) ∧ ww.cell? ⟨d, 9, none⟩ = some (.int .u8 key)) (exact qK) (first | (go_at_call 168; refine Calls.mono (HS.out _ (by (repeat (with_reducible first | exact H0 | refine HP.out _ ?_ | refine RdAt.drewN ?_ _ | refine RdAt.drew ?_)))) ?_; rintro r1 w1 ⟨rfl, h1⟩; have hz1 := h1.size; (try simp at hz1); (try have ⟨hl1_0, hk1_0⟩ := qL d w1.heap.size); (try have ⟨hl1_1, hk1_1⟩ := qL r w1.heap.size)) | (go_at_call 167; refine Calls.mono (HG.out _) ?_; rintro r2 w2 ⟨rfl, h2⟩; have hz2 := h2.size; (try simp at hz2); (try have ⟨hl2_0, hk2_0⟩ := qL d w2.heap.size); (try have ⟨hl2_1, hk2_1⟩ := qL r w2.heap.size)) | (go_at_call 166; refine Calls.mono (HA.out _ (by (repeat (with_reducible first | exact H0 | refine HP.out _ ?_ | refine RdAt.drewN ?_ _ | refine RdAt.drew ?_ | refine RdAt.below ?_ h2 | refine RdAt.below ?_ h1)))) ?_; rintro r3 w3 ⟨rfl, h3, u3⟩; have hz3 := u3.size; (try simp at hz3); have g0 := h3.bg.c0; have g8 := h3.dk.c8; have g9 := h3.dk.c9; rw [f1] at g8; rw [f2] at g9))
  exact qt13
 ·subst hp
  go_enter func145, ntmps145
  go_wp2_with fail
  go_region_held3 (fun ww => ww.cell? ⟨r, 0, none⟩ = some (.pointer (some ⟨d, 0, none⟩)) ∧ ww.cell? ⟨r, 5, none⟩ = some (.int .u8 116)) (exact qK) (fail)
  go_wp2_with fail
  go_region_held3 (fun ww => ww.cell? ⟨r, 0, none⟩ = some (.pointer (some ⟨d, 0, none⟩)) ∧ ww.cell? ⟨d, 8, none⟩ = some (.int .u8 116) ∧ ww.cell? ⟨d, 9, none⟩ = some (.int .u8 key)) (exact qK) (first | (go_at_call 168; refine Calls.mono (HS.out _ (by (repeat (with_reducible first | exact H0 | refine HP.out _ ?_ | refine RdAt.drewN ?_ _ | refine RdAt.drew ?_)))) ?_; rintro r1 w1 ⟨rfl, h1⟩; have hz1 := h1.size; (try simp at hz1); (try have ⟨hl1_0, hk1_0⟩ := qL d w1.heap.size); (try have ⟨hl1_1, hk1_1⟩ := qL r w1.heap.size)) | (go_at_call 167; refine Calls.mono (HG.out _) ?_; rintro r2 w2 ⟨rfl, h2⟩; have hz2 := h2.size; (try simp at hz2); (try have ⟨hl2_0, hk2_0⟩ := qL d w2.heap.size); (try have ⟨hl2_1, hk2_1⟩ := qL r w2.heap.size)) | (go_at_call 166; refine Calls.mono (HA.out _ (by (repeat (with_reducible first | exact H0 | refine HP.out _ ?_ | refine RdAt.drewN ?_ _ | refine RdAt.drew ?_ | refine RdAt.below ?_ h2 | refine RdAt.below ?_ h1)))) ?_; rintro r3 w3 ⟨rfl, h3, u3⟩; have hz3 := u3.size; (try simp at hz3); have g0 := h3.bg.c0; have g8 := h3.dk.c8; have g9 := h3.dk.c9; rw [f1] at g8; rw [f2] at g9))
  exact qt13
 ·subst hp
  go_enter func145, ntmps145
  go_wp2_with fail
  go_region_held3 (fun ww => ww.cell? ⟨r, 0, none⟩ = some (.pointer (some ⟨d, 0, none⟩)) ∧ ww.cell? ⟨r, 5, none⟩ = some (.int .u8 70)) (exact qK) (fail)
  go_wp2_with fail
  go_region_held3 (fun ww => ww.cell? ⟨r, 0, none⟩ = some (.pointer (some ⟨d, 0, none⟩)) ∧ ww.cell? ⟨d, 8, none⟩ = some (.int .u8 70) ∧ ww.cell? ⟨d, 9, none⟩ = some (.int .u8 key)) (exact qK) (first | (go_at_call 168; refine Calls.mono (HS.out _ (by (repeat (with_reducible first | exact H0 | refine HP.out _ ?_ | refine RdAt.drewN ?_ _ | refine RdAt.drew ?_)))) ?_; rintro r1 w1 ⟨rfl, h1⟩; have hz1 := h1.size; (try simp at hz1); (try have ⟨hl1_0, hk1_0⟩ := qL d w1.heap.size); (try have ⟨hl1_1, hk1_1⟩ := qL r w1.heap.size)) | (go_at_call 167; refine Calls.mono (HG.out _) ?_; rintro r2 w2 ⟨rfl, h2⟩; have hz2 := h2.size; (try simp at hz2); (try have ⟨hl2_0, hk2_0⟩ := qL d w2.heap.size); (try have ⟨hl2_1, hk2_1⟩ := qL r w2.heap.size)) | (go_at_call 166; refine Calls.mono (HA.out _ (by (repeat (with_reducible first | exact H0 | refine HP.out _ ?_ | refine RdAt.drewN ?_ _ | refine RdAt.drew ?_ | refine RdAt.below ?_ h2 | refine RdAt.below ?_ h1)))) ?_; rintro r3 w3 ⟨rfl, h3, u3⟩; have hz3 := u3.size; (try simp at hz3); have g0 := h3.bg.c0; have g8 := h3.dk.c8; have g9 := h3.dk.c9; rw [f1] at g8; rw [f2] at g9))
  exact qt13
 ·subst hp
  go_enter func145, ntmps145
  go_wp2_with fail
  go_region_held3 (fun ww => ww.cell? ⟨r, 0, none⟩ = some (.pointer (some ⟨d, 0, none⟩)) ∧ ww.cell? ⟨r, 5, none⟩ = some (.int .u8 84)) (exact qK) (fail)
  go_wp2_with fail
  go_region_held3 (fun ww => ww.cell? ⟨r, 0, none⟩ = some (.pointer (some ⟨d, 0, none⟩)) ∧ ww.cell? ⟨d, 8, none⟩ = some (.int .u8 84) ∧ ww.cell? ⟨d, 9, none⟩ = some (.int .u8 key)) (exact qK) (first | (go_at_call 168; refine Calls.mono (HS.out _ (by (repeat (with_reducible first | exact H0 | refine HP.out _ ?_ | refine RdAt.drewN ?_ _ | refine RdAt.drew ?_)))) ?_; rintro r1 w1 ⟨rfl, h1⟩; have hz1 := h1.size; (try simp at hz1); (try have ⟨hl1_0, hk1_0⟩ := qL d w1.heap.size); (try have ⟨hl1_1, hk1_1⟩ := qL r w1.heap.size)) | (go_at_call 167; refine Calls.mono (HG.out _) ?_; rintro r2 w2 ⟨rfl, h2⟩; have hz2 := h2.size; (try simp at hz2); (try have ⟨hl2_0, hk2_0⟩ := qL d w2.heap.size); (try have ⟨hl2_1, hk2_1⟩ := qL r w2.heap.size)) | (go_at_call 166; refine Calls.mono (HA.out _ (by (repeat (with_reducible first | exact H0 | refine HP.out _ ?_ | refine RdAt.drewN ?_ _ | refine RdAt.drew ?_ | refine RdAt.below ?_ h2 | refine RdAt.below ?_ h1)))) ?_; rintro r3 w3 ⟨rfl, h3, u3⟩; have hz3 := u3.size; (try simp at hz3); have g0 := h3.bg.c0; have g8 := h3.dk.c8; have g9 := h3.dk.c9; rw [f1] at g8; rw [f2] at g9))
  exact qt13
abbrev GivesR (f : Nat) (args : Array Value) (r d : Nat) (p p2 : Pg) (O : Int) : Prop :=
 Hid (∀ ww, RdAt ww r d p → Calls Tryz.prog f args ww fun e w' => e = .returned (.int .i64 O) ∧ RdAt w' r d p2 ∧ Upd [r, d] ww w')
theorem GivesR.of_d {f : Nat} {args : Array Value} {r d : Nat} {p p2 : Pg} {O : Int} (h : ∀ ww, RdAt ww r d p → Calls Tryz.prog f args ww fun e w' => e = .returned (.int .i64 O) ∧ RdAt w' r d p2 ∧ Upd [d] ww w') : GivesR f args r d p p2 O :=
 fun ww hh => Calls.mono (h ww hh) (fun _ _ ⟨a, b, c⟩ => ⟨a, b, c.mono qi⟩)
theorem GivesR.of_r {f : Nat} {args : Array Value} {r d : Nat} {p p2 : Pg} {O : Int} (h : ∀ ww, RdAt ww r d p → Calls Tryz.prog f args ww fun e w' => e = .returned (.int .i64 O) ∧ RdAt w' r d p2 ∧ Upd [r] ww w') : GivesR f args r d p p2 O :=
 fun ww hh => Calls.mono (h ww hh) (fun _ _ ⟨a, b, c⟩ => ⟨a, b, c.mono qi⟩)
theorem GivesR.of_below {f : Nat} {args : Array Value} {r d : Nat} {p : Pg} {O : Int} (h : ∀ ww, RdAt ww r d p → qC f args ww (.int .i64 O)) : GivesR f args r d p p O :=
 fun ww hh => Calls.mono (h ww hh) (fun _ _ ⟨a, b⟩ => ⟨a, hh.below b, Upd.of_below b⟩)
theorem qt30 {P : Prop} (h : P := by
  go_wp2_with fail
  refine Calls.mono (HC.out _ qRd) ?_
  rintro e w1 ⟨rfl, h1, u1⟩
  exact qt13
 ) : P := h
theorem mNComplete (r d : Nat) (p p2 : Pg) (key O : Int) (w : World) (h : RdAt w r d p) (hp : isFind p.part = true ∨ (p.part = 103 ∧ ¬ key = 117 ∧ ¬ key = 85))
  (HC : GivesR 145 #[.pointer (some ⟨r, 0, none⟩), .int .u8 key] r d p p2 O) :
  Calls Tryz.prog 138 #[.agg #[.pointer (some ⟨r, 0, none⟩)], .int .u8 key] w fun e w' => e = .returned (.int .i64 O) ∧ RdAt w' r d p2 ∧ Upd [r, d] w w' := by
 have H := h
 obtain ⟨b0, b1, b2, b3, b4, b5, bz, bl⟩ := h.bg
 clear b1 b2 b4 h
 have l1 : r < w.heap.size + 1 := by omega
 by_cases hg : p.part = 103
 ·obtain ⟨k1, k2⟩ : ¬ key = 117 ∧ ¬ key = 85 := by
   rcases hp with hp | hp
   ·rw [hg] at hp; exact absurd hp qd
   ·exact hp.2
  have k1' : (key == 117) = false := by simp [k1]
  have k2' : (key == 85) = false := by simp [k2]
  rw [hg] at b5
  clear hp hg k1 k2
  by_cases hv : p.verb = 0
  ·rw [hv] at b3
   clear hv
   go_enter func138, ntmps138
   exact qt30
  ·have hv' : (p.verb == 0) = false := by simp [hv]
   clear hv
   go_enter func138, ntmps138
   exact qt30
 ·have hf : isFind p.part = true := by
   rcases hp with hp | hp
   ·exact hp
   ·exact absurd hp.1 hg
  simp only [isFind, Bool.or_eq_true, beq_iff_eq] at hf
  have g1 : (p.part == 103) = false := by simp [hg]
  have g2 : (p.part == 114) = false := by simp; omega
  clear hp hg hf
  go_enter func138, ntmps138
  exact qt30
def kCmd : List Int := [34, 100, 99, 121, 62, 60, 114, 118, 86, 120, 88, 68, 67, 115, 83, 89, 105, 97, 73, 65, 111, 79, 112, 80, 126, 74, 117, 18, 46]
theorem mCommand_way (r d : Nat) (p p2 : Pg) (key O : Int) (w : World) (h : RdAt w r d p) (hk : ∀ c, c ∈ kCmd → ¬ key = c)
  (HC : GivesR 148 #[.pointer (some ⟨r, 0, none⟩), .int .u8 key] r d p p2 O) :
  Calls Tryz.prog 141 #[.agg #[.pointer (some ⟨r, 0, none⟩)], .int .u8 key] w fun e w' => e = .returned (.int .i64 O) ∧ RdAt w' r d p2 ∧ Upd [r, d] w w' := by
 have H := h
 have k34 : (key == 34) = false := by simp [hk 34 qd]
 have k100 : (key == 100) = false := by simp [hk 100 qd]
 have k99 : (key == 99) = false := by simp [hk 99 qd]
 have k121 : (key == 121) = false := by simp [hk 121 qd]
 have k62 : (key == 62) = false := by simp [hk 62 qd]
 have k60 : (key == 60) = false := by simp [hk 60 qd]
 have k114 : (key == 114) = false := by simp [hk 114 qd]
 have k118 : (key == 118) = false := by simp [hk 118 qd]
 have k86 : (key == 86) = false := by simp [hk 86 qd]
 have k120 : (key == 120) = false := by simp [hk 120 qd]
 have k88 : (key == 88) = false := by simp [hk 88 qd]
 have k68 : (key == 68) = false := by simp [hk 68 qd]
 have k67 : (key == 67) = false := by simp [hk 67 qd]
 have k115 : (key == 115) = false := by simp [hk 115 qd]
 have k83 : (key == 83) = false := by simp [hk 83 qd]
 have k89 : (key == 89) = false := by simp [hk 89 qd]
 have k105 : (key == 105) = false := by simp [hk 105 qd]
 have k97 : (key == 97) = false := by simp [hk 97 qd]
 have k73 : (key == 73) = false := by simp [hk 73 qd]
 have k65 : (key == 65) = false := by simp [hk 65 qd]
 have k111 : (key == 111) = false := by simp [hk 111 qd]
 have k79 : (key == 79) = false := by simp [hk 79 qd]
 have k112 : (key == 112) = false := by simp [hk 112 qd]
 have k80 : (key == 80) = false := by simp [hk 80 qd]
 have k126 : (key == 126) = false := by simp [hk 126 qd]
 have k74 : (key == 74) = false := by simp [hk 74 qd]
 have k117 : (key == 117) = false := by simp [hk 117 qd]
 have k18 : (key == 18) = false := by simp [hk 18 qd]
 have k46 : (key == 46) = false := by simp [hk 46 qd]
 clear hk h
 go_enter func141, ntmps141
 exact qt30
theorem qt36 {P : Prop} (h : P := by
  go_wp2_with fail
  refine Calls.mono (HM.out _ qRd) ?_
  rintro e w1 ⟨rfl, h1, u1⟩
  exact qt13
 ) : P := h
theorem mCommand_mark (r d : Nat) (p : Pg) (key : Int) (w : World) (h : RdAt w r d p) (hk : key = 118 ∨ key = 86) :
  Calls Tryz.prog 141 #[.agg #[.pointer (some ⟨r, 0, none⟩)], .int .u8 key] w fun e w' => e = .returned (.int .i64 1) ∧ RdAt w' r d { p with mode := if key = 86 then 3 else 2, anchor := p.pl } ∧ Upd [r, d] w w' := by
 have H := h
 have b0 := h.bg.c0
 have bl := h.bg.lt
 have l1 : r < w.heap.size + 1 := by omega
 rcases hk with hk | hk
 ·have HM : Hid (∀ ww, RdAt ww r d p → Calls Tryz.prog 150 #[.pointer (some ⟨d, 0, none⟩), .int .i64 2] ww fun e w' => e = .returned (.tuple #[]) ∧ RdAt w' r d { p with mode := 2, anchor := p.pl } ∧ Upd [d] ww w') := fun ww hh => mMark r d p 2 ww hh
  subst hk
  rw [if_neg qd]
  generalize hp2 : ({ p with mode := 2, anchor := p.pl } : Pg) = p2 at *
  clear hp2 h
  go_enter func141, ntmps141
  exact qt36
 ·have HM : Hid (∀ ww, RdAt ww r d p → Calls Tryz.prog 150 #[.pointer (some ⟨d, 0, none⟩), .int .i64 3] ww fun e w' => e = .returned (.tuple #[]) ∧ RdAt w' r d { p with mode := 3, anchor := p.pl } ∧ Upd [d] ww w') := fun ww hh => mMark r d p 3 ww hh
  subst hk
  rw [if_pos rfl]
  generalize hp2 : ({ p with mode := 3, anchor := p.pl } : Pg) = p2 at *
  clear hp2 h
  go_enter func141, ntmps141
  exact qt36
