/- Joined of the texts ModesG. -/
import Derived.Test.YtlendfhehhacpaaGreatP08
set_option linter.unusedVariables false
set_option linter.unusedSimpArgs false
set_option maxRecDepth 100000
set_option maxHeartbeats 8000000
namespace Go.Proofs.YtlendfhehhacpaaGreat
open Go.RowKit
theorem mWay_again (r d : Nat) (p : Pg) (R : Int × Int × Bool) (w : World) (h : RdAt w r d p) (hn : p.n ≤ 99) (hb : p.behind ≤ 99) (hs : p.t.size ≤ 1000) (hv : p.verb = 0)
    (hR : R.2.2 = false → 0 ≤ R.1 ∧ R.1 ≤ p.t.size)
    (HG : Hid (∀ ww, Calls Tryz.prog 183 #[.agg #[.int .u8 p.fnd, .int .u8 p.findC], .agg #[.string p.t, .int .i64 (p.pl), .int .i64 (cnt p), .bool false, .bool false]] ww fun e w' => e = .returned (.tuple #[.agg #[.int .i64 (wayX (R)), .int .i64 (wayK (R))], .bool (wayZ (R))]) ∧ Below ww.heap.size ww w')) :
    Calls Tryz.prog 148 #[.pointer (some ⟨r, 0, none⟩), .int .u8 59] w fun e w' =>
      e = .returned (.int .i64 (if R.2.2 = true then 4 else 1)) ∧ RdAt w' r d (arrEd p R) ∧ Upd [d] w w' := by
  have H := h
  have HS : Hid (∀ ww, RdAt ww r d p → Calls Tryz.prog 168 #[.pointer (some ⟨r, 0, none⟩)] ww fun e w' => e = .returned (.agg #[.string p.t, .int .i64 (p.pl), .int .i64 (cnt p), .bool false, .bool false]) ∧ Below ww.heap.size ww w') := by
    intro ww hh
    have := mStart r d p ww hh hn hb
    rw [hv] at this
    exact this
  have HA : Hid (∀ ww, RdAt ww r d p → Calls Tryz.prog 166 #[.pointer (some ⟨r, 0, none⟩), .agg #[.int .i64 (wayX R), .int .i64 (wayK R)], .bool (wayZ R)] ww fun e w' =>
      e = .returned (.int .i64 (if R.2.2 = true then 4 else 1)) ∧ RdAt w' r d (arrEd p R) ∧ Upd [d] ww w') := fun ww hh => mArrive r d p R ww hh hs hv hR
  have f1 : (arrEd p R).fnd = p.fnd := by unfold arrEd; split <;> rfl
  have f2 : (arrEd p R).findC = p.findC := by unfold arrEd; split <;> rfl
  generalize (if R.2.2 = true then (4 : Int) else 1) = O at *
  generalize arrEd p R = p2 at *
  generalize wayX R = X at *
  generalize wayK R = K at *
  generalize wayZ R = Z at *
  obtain ⟨c0, c1, c2, c3, c4, c5, c6, c7, c8, c9, fz, lt⟩ := h.dk
  obtain ⟨b0, b1, b2, b3, b4, b5, bz, bl⟩ := h.bg
  clear c0 c1 c2 c3 c4 c5 c6 c7 b1 b2 b3 b4 b5 hv hR h
  go_enter Tryz.func148, Tryz.ntmps148
  go_wp2_with fail
  go_region_held3 (fun ww => ww.cell? ⟨r, 0, none⟩ = some (.pointer (some ⟨d, 0, none⟩)) ∧ ww.cell? ⟨d, 8, none⟩ = some (.int .u8 p.fnd) ∧ ww.cell? ⟨d, 9, none⟩ = some (.int .u8 p.findC)) ((refine ⟨?_, ?_, ?_⟩ <;> (first | (go_simp; done) | ((repeat (first | with_reducible assumption | (with_reducible refine memLater ((Below.refl _ _).alloc (Nat.le_refl _) _) ?_) | (with_reducible refine memLater ((Below.refl _ _).drew) ?_) | (with_reducible refine memLater h1 ?_) | (with_reducible refine memLater h2 ?_) | (with_reducible refine (memSet (by omega)).trans ?_) | (go_simp; done))); done)))) (first | (go_at_call 168; refine Calls.mono (HS.out _ (by (repeat (with_reducible first | exact H | refine RdAt.alloc ?_ _ | refine RdAt.drewN ?_ _ | refine RdAt.drew ?_ | refine r_o ?_ _)))) ?_; rintro r1 w1 ⟨rfl, h1⟩; have hz1 := h1.size; (try simp at hz1); (try have hl1_0 : d < w1.heap.size := (by omega)); (try have hk1_0 : d < w1.heap.size + 1 := (by omega)); (try have hl1_1 : r < w1.heap.size := (by omega)); (try have hk1_1 : r < w1.heap.size + 1 := (by omega))) | (go_at_call 183; refine Calls.mono (HG.out _) ?_; rintro r2 w2 ⟨rfl, h2⟩; have hz2 := h2.size; (try simp at hz2); (try have hl2_0 : d < w2.heap.size := (by omega)); (try have hk2_0 : d < w2.heap.size + 1 := (by omega)); (try have hl2_1 : r < w2.heap.size := (by omega)); (try have hk2_1 : r < w2.heap.size + 1 := (by omega))) | (go_at_call 166; refine Calls.mono (HA.out _ (by (repeat (with_reducible first | exact H | refine RdAt.alloc ?_ _ | refine RdAt.drewN ?_ _ | refine RdAt.drew ?_ | refine RdAt.below ?_ h1 | refine RdAt.below ?_ h2 | refine r_o ?_ _)))) ?_; rintro r3 w3 ⟨rfl, h3, u3⟩; have hz3 := u3.size; (try simp at hz3); have g0 := h3.bg.c0; have g8 := h3.dk.c8; have g9 := h3.dk.c9; rw [f1] at g8; rw [f2] at g9))
  go_wp2
  go_ret
  refine ⟨rfl, ?_, ?_⟩
  · repeat (with_reducible first | exact h3 | refine r_o ?_ _ | refine RdAt.alloc ?_ _ | refine RdAt.drewN ?_ _ | refine RdAt.drew ?_)
  · repeat (with_reducible first | exact Upd.refl _ _ | refine u_s ?_ _ | refine Upd.alloc ?_ _ | refine Upd.drewN ?_ _ | refine Upd.drew ?_ | refine Upd.trans ?_ (Upd.mono u3 (by simp)) | refine Upd.below ?_ h2 | refine Upd.below ?_ h1)
theorem mWay_turned (r d : Nat) (p : Pg) (K1 : Int) (R : Int × Int × Bool) (w : World) (h : RdAt w r d p) (hn : p.n ≤ 99) (hb : p.behind ≤ 99) (hs : p.t.size ≤ 1000) (hv : p.verb = 0)
    (hR : R.2.2 = false → 0 ≤ R.1 ∧ R.1 ≤ p.t.size)
    (HT : Hid (∀ ww, Calls Tryz.prog 184 #[.agg #[.int .u8 p.fnd, .int .u8 p.findC]] ww fun e w' => e = .returned (.agg #[.int .u8 K1, .int .u8 p.findC]) ∧ Below ww.heap.size ww w'))
    (HG : Hid (∀ ww, Calls Tryz.prog 183 #[.agg #[.int .u8 K1, .int .u8 p.findC], .agg #[.string p.t, .int .i64 (p.pl), .int .i64 (cnt p), .bool false, .bool false]] ww fun e w' => e = .returned (.tuple #[.agg #[.int .i64 (wayX (R)), .int .i64 (wayK (R))], .bool (wayZ (R))]) ∧ Below ww.heap.size ww w')) :
    Calls Tryz.prog 148 #[.pointer (some ⟨r, 0, none⟩), .int .u8 44] w fun e w' =>
      e = .returned (.int .i64 (if R.2.2 = true then 4 else 1)) ∧ RdAt w' r d (arrEd p R) ∧ Upd [d] w w' := by
  have H := h
  have HS : Hid (∀ ww, RdAt ww r d p → Calls Tryz.prog 168 #[.pointer (some ⟨r, 0, none⟩)] ww fun e w' => e = .returned (.agg #[.string p.t, .int .i64 (p.pl), .int .i64 (cnt p), .bool false, .bool false]) ∧ Below ww.heap.size ww w') := by
    intro ww hh
    have := mStart r d p ww hh hn hb
    rw [hv] at this
    exact this
  have HA : Hid (∀ ww, RdAt ww r d p → Calls Tryz.prog 166 #[.pointer (some ⟨r, 0, none⟩), .agg #[.int .i64 (wayX R), .int .i64 (wayK R)], .bool (wayZ R)] ww fun e w' =>
      e = .returned (.int .i64 (if R.2.2 = true then 4 else 1)) ∧ RdAt w' r d (arrEd p R) ∧ Upd [d] ww w') := fun ww hh => mArrive r d p R ww hh hs hv hR
  have f1 : (arrEd p R).fnd = p.fnd := by unfold arrEd; split <;> rfl
  have f2 : (arrEd p R).findC = p.findC := by unfold arrEd; split <;> rfl
  generalize (if R.2.2 = true then (4 : Int) else 1) = O at *
  generalize arrEd p R = p2 at *
  generalize wayX R = X at *
  generalize wayK R = K at *
  generalize wayZ R = Z at *
  obtain ⟨c0, c1, c2, c3, c4, c5, c6, c7, c8, c9, fz, lt⟩ := h.dk
  obtain ⟨b0, b1, b2, b3, b4, b5, bz, bl⟩ := h.bg
  clear c0 c1 c2 c3 c4 c5 c6 c7 b1 b2 b3 b4 b5 hv hR h
  go_enter Tryz.func148, Tryz.ntmps148
  go_wp2_with fail
  refine Calls.mono (HT.out _) ?_
  rintro e w4 ⟨rfl, h4⟩
  go_wp2_with fail
  refine Calls.mono (HS.out _ (by (repeat (with_reducible first | exact H | refine RdAt.alloc ?_ _ | refine RdAt.drewN ?_ _ | refine RdAt.drew ?_ | refine RdAt.below ?_ h4 | refine r_o ?_ _)))) ?_
  rintro e w1 ⟨rfl, h1⟩
  go_wp2_with fail
  refine Calls.mono (HG.out _) ?_
  rintro e w2 ⟨rfl, h2⟩
  go_wp2_with fail
  refine Calls.mono (HA.out _ (by (repeat (with_reducible first | exact H | refine RdAt.alloc ?_ _ | refine RdAt.drewN ?_ _ | refine RdAt.drew ?_ | refine RdAt.below ?_ h2 | refine RdAt.below ?_ h1 | refine RdAt.below ?_ h4 | refine r_o ?_ _)))) ?_
  rintro e w3 ⟨rfl, h3, u3⟩
  go_wp2
  go_ret
  refine ⟨rfl, ?_, ?_⟩
  · repeat (with_reducible first | exact h3 | refine r_o ?_ _ | refine RdAt.alloc ?_ _ | refine RdAt.drewN ?_ _ | refine RdAt.drew ?_)
  · repeat (with_reducible first | exact Upd.refl _ _ | refine u_s ?_ _ | refine Upd.alloc ?_ _ | refine Upd.drewN ?_ _ | refine Upd.drew ?_ | refine Upd.trans ?_ (Upd.mono u3 (by simp)) | refine Upd.below ?_ h2 | refine Upd.below ?_ h1 | refine Upd.below ?_ h4)
theorem mComplete_gg (r d : Nat) (p : Pg) (R : Int × Int × Bool) (w : World) (h : RdAt w r d p) (hn : p.n ≤ 99) (hb : p.behind ≤ 99) (hs : p.t.size ≤ 1000) (hv : p.verb = 0) (hp : p.part = 103)
    (hR : R.2.2 = false → 0 ≤ R.1 ∧ R.1 ≤ p.t.size)
    (HG : Hid (∀ ww, Calls Tryz.prog 169 #[.int .u8 103, .agg #[.string p.t, .int .i64 (p.pl), .int .i64 (cnt p), .bool false, .bool false]] ww fun e w' => e = .returned (.tuple #[.agg #[.int .i64 (wayX (R)), .int .i64 (wayK (R))], .bool (wayZ (R))]) ∧ Below ww.heap.size ww w')) :
    Calls Tryz.prog 145 #[.pointer (some ⟨r, 0, none⟩), .int .u8 103] w fun e w' =>
      e = .returned (.int .i64 (if R.2.2 = true then 4 else 1)) ∧ RdAt w' r d (arrEd p R) ∧ Upd [d] w w' := by
  have H := h
  have HS : Hid (∀ ww, RdAt ww r d p → Calls Tryz.prog 168 #[.pointer (some ⟨r, 0, none⟩)] ww fun e w' => e = .returned (.agg #[.string p.t, .int .i64 (p.pl), .int .i64 (cnt p), .bool false, .bool false]) ∧ Below ww.heap.size ww w') := by
    intro ww hh
    have := mStart r d p ww hh hn hb
    rw [hv] at this
    exact this
  have HA : Hid (∀ ww, RdAt ww r d p → Calls Tryz.prog 166 #[.pointer (some ⟨r, 0, none⟩), .agg #[.int .i64 (wayX R), .int .i64 (wayK R)], .bool (wayZ R)] ww fun e w' =>
      e = .returned (.int .i64 (if R.2.2 = true then 4 else 1)) ∧ RdAt w' r d (arrEd p R) ∧ Upd [d] ww w') := fun ww hh => mArrive r d p R ww hh hs hv hR
  generalize (if R.2.2 = true then (4 : Int) else 1) = O at *
  generalize arrEd p R = p2 at *
  generalize wayX R = X at *
  generalize wayK R = K at *
  generalize wayZ R = Z at *
  obtain ⟨b0, b1, b2, b3, b4, b5, bz, bl⟩ := h.bg
  rw [hp] at b5
  clear b1 b2 b3 b4 hv hR h hp
  go_enter Tryz.func145, Tryz.ntmps145
  go_wp2_with fail
  refine Calls.mono (HS.out _ (by (repeat (with_reducible first | exact H | refine RdAt.alloc ?_ _ | refine RdAt.drewN ?_ _ | refine RdAt.drew ?_ | refine r_o ?_ _)))) ?_
  rintro e w1 ⟨rfl, h1⟩
  go_wp2_with fail
  refine Calls.mono (HG.out _) ?_
  rintro e w2 ⟨rfl, h2⟩
  go_wp2_with fail
  refine Calls.mono (HA.out _ (by (repeat (with_reducible first | exact H | refine RdAt.alloc ?_ _ | refine RdAt.drewN ?_ _ | refine RdAt.drew ?_ | refine RdAt.below ?_ h2 | refine RdAt.below ?_ h1 | refine r_o ?_ _)))) ?_
  rintro e w3 ⟨rfl, h3, u3⟩
  go_wp2
  go_ret
  refine ⟨rfl, ?_, ?_⟩
  · repeat (with_reducible first | exact h3 | refine r_o ?_ _ | refine RdAt.alloc ?_ _ | refine RdAt.drewN ?_ _ | refine RdAt.drew ?_)
  · repeat (with_reducible first | exact Upd.refl _ _ | refine u_s ?_ _ | refine Upd.alloc ?_ _ | refine Upd.drewN ?_ _ | refine Upd.drew ?_ | refine Upd.trans ?_ (Upd.mono u3 (by simp)) | refine Upd.below ?_ h2 | refine Upd.below ?_ h1)
theorem mComplete_g (r d : Nat) (p : Pg) (key : Int) (w : World) (h : RdAt w r d p) (hp : p.part = 103) (hk : ¬ key = 103) :
    Calls Tryz.prog 145 #[.pointer (some ⟨r, 0, none⟩), .int .u8 key] w fun e w' =>
      e = .returned (.int .i64 4) ∧ Below w.heap.size w w' := by
  obtain ⟨b0, b1, b2, b3, b4, b5, bz, bl⟩ := h.bg
  rw [hp] at b5
  have hk' : (key == 103) = false := by simp [hk]
  clear b1 b2 b3 b4 h hp hk
  go_enter Tryz.func145, Tryz.ntmps145
  go_wp2
  refine bodyPost_ret (v := .int .i64 4) (by simp [results, Tryz.results145, go_sem]) rfl ⟨rfl, ?_⟩
  repeat (with_reducible first | exact Below.refl _ _ | refine b_s ?_ _ | refine b_a ?_ _ | refine Below.drew ?_ | refine below_drewN ?_ _)
theorem mComplete_find (r d : Nat) (p : Pg) (key : Int) (R : Int × Int × Bool) (w : World) (h : RdAt w r d p) (hn : p.n ≤ 99) (hb : p.behind ≤ 99) (hs : p.t.size ≤ 1000) (hv : p.verb = 0) (hp : Nib.isFind p.part = true)
    (hR : R.2.2 = false → 0 ≤ R.1 ∧ R.1 ≤ p.t.size)
    (HG : Hid (∀ ww, Calls Tryz.prog 167 #[.agg #[.int .u8 p.part, .int .u8 key], .agg #[.string p.t, .int .i64 (p.pl), .int .i64 (cnt p), .bool false, .bool false]] ww fun e w' => e = .returned (.tuple #[.agg #[.int .i64 (wayX (R)), .int .i64 (wayK (R))], .bool (wayZ (R))]) ∧ Below ww.heap.size ww w')) :
    Calls Tryz.prog 145 #[.pointer (some ⟨r, 0, none⟩), .int .u8 key] w fun e w' =>
      e = .returned (.int .i64 (if R.2.2 = true then 4 else 1)) ∧ RdAt w' r d (arrEd { p with fnd := p.part, findC := key } R) ∧ Upd [d] w w' := by
  have H0 := h
  have HP : Hid (∀ ww, RdAt ww r d p → RdAt ((ww.setCell ⟨d, 8, none⟩ (.int .u8 p.part)).setCell ⟨d, 9, none⟩ (.int .u8 key)) r d { p with fnd := p.part, findC := key }) := fun ww hh => (hh.set_fnd p.part).set_findC key
  have HS : Hid (∀ ww, RdAt ww r d { p with fnd := p.part, findC := key } → Calls Tryz.prog 168 #[.pointer (some ⟨r, 0, none⟩)] ww fun e w' => e = .returned (.agg #[.string p.t, .int .i64 (p.pl), .int .i64 (cnt p), .bool false, .bool false]) ∧ Below ww.heap.size ww w') := by
    intro ww hh
    have := mStart r d { p with fnd := p.part, findC := key } ww hh hn hb
    simp only [hv] at this
    exact this
  have HA : Hid (∀ ww, RdAt ww r d { p with fnd := p.part, findC := key } → Calls Tryz.prog 166 #[.pointer (some ⟨r, 0, none⟩), .agg #[.int .i64 (wayX R), .int .i64 (wayK R)], .bool (wayZ R)] ww fun e w' =>
      e = .returned (.int .i64 (if R.2.2 = true then 4 else 1)) ∧ RdAt w' r d (arrEd { p with fnd := p.part, findC := key } R) ∧ Upd [d] ww w') := fun ww hh => mArrive r d { p with fnd := p.part, findC := key } R ww hh hs hv hR
  have f1 : (arrEd { p with fnd := p.part, findC := key } R).fnd = p.part := by unfold arrEd; split <;> rfl
  have f2 : (arrEd { p with fnd := p.part, findC := key } R).findC = key := by unfold arrEd; split <;> rfl
  generalize (if R.2.2 = true then (4 : Int) else 1) = O at *
  generalize arrEd { p with fnd := p.part, findC := key } R = p2 at *
  generalize hp1 : ({ p with fnd := p.part, findC := key } : Pg) = p1 at *
  have f3 : p1.fnd = p.part := by rw [← hp1]
  have f4 : p1.findC = key := by rw [← hp1]
  clear hp1
  generalize wayX R = X at *
  generalize wayK R = K at *
  generalize wayZ R = Z at *
  obtain ⟨c0, c1, c2, c3, c4, c5, c6, c7, c8, c9, fz, lt⟩ := h.dk
  obtain ⟨b0, b1, b2, b3, b4, b5, bz, bl⟩ := h.bg
  clear c0 c1 c2 c3 c4 c5 c6 c7 b1 b2 b3 b4 hv hR h
  simp only [Nib.isFind, Bool.or_eq_true, beq_iff_eq] at hp
  generalize p.part = part at *
  generalize p.t = T at *
  generalize p.pl = PL at *
  generalize cnt p = N at *
  have nrd := H0.ne
  have nrd1 : ¬ r = d := nrd
  have nrd2 : ¬ d = r := Ne.symm nrd
  clear nrd
  rcases hp with ((hp | hp) | hp) | hp
  · subst hp
    go_enter Tryz.func145, Tryz.ntmps145
    go_wp2_with fail
    go_region_held3 (fun ww => ww.cell? ⟨r, 0, none⟩ = some (.pointer (some ⟨d, 0, none⟩)) ∧ ww.cell? ⟨r, 5, none⟩ = some (.int .u8 102)) ((refine ⟨?_, ?_⟩ <;> go_simp)) (fail)
    go_wp2_with fail
    go_region_held3 (fun ww => ww.cell? ⟨r, 0, none⟩ = some (.pointer (some ⟨d, 0, none⟩)) ∧ ww.cell? ⟨d, 8, none⟩ = some (.int .u8 102) ∧ ww.cell? ⟨d, 9, none⟩ = some (.int .u8 key)) ((refine ⟨?_, ?_, ?_⟩ <;> (first | (go_simp; done) | ((repeat (first | with_reducible assumption | (with_reducible refine memLater ((Below.refl _ _).alloc (Nat.le_refl _) _) ?_) | (with_reducible refine memLater ((Below.refl _ _).drew) ?_) | (with_reducible refine memLater h1 ?_) | (with_reducible refine memLater h2 ?_) | (with_reducible refine (memSet (by omega)).trans ?_) | (go_simp; done))); done)))) (first | (go_at_call 168; refine Calls.mono (HS.out _ (by (repeat (with_reducible first | exact H0 | refine HP.out _ ?_ | refine RdAt.drewN ?_ _ | refine RdAt.drew ?_)))) ?_; rintro r1 w1 ⟨rfl, h1⟩; have hz1 := h1.size; (try simp at hz1); (try have hl1_0 : d < w1.heap.size := (by omega)); (try have hk1_0 : d < w1.heap.size + 1 := (by omega)); (try have hl1_1 : r < w1.heap.size := (by omega)); (try have hk1_1 : r < w1.heap.size + 1 := (by omega))) | (go_at_call 167; refine Calls.mono (HG.out _) ?_; rintro r2 w2 ⟨rfl, h2⟩; have hz2 := h2.size; (try simp at hz2); (try have hl2_0 : d < w2.heap.size := (by omega)); (try have hk2_0 : d < w2.heap.size + 1 := (by omega)); (try have hl2_1 : r < w2.heap.size := (by omega)); (try have hk2_1 : r < w2.heap.size + 1 := (by omega))) | (go_at_call 166; refine Calls.mono (HA.out _ (by (repeat (with_reducible first | exact H0 | refine HP.out _ ?_ | refine RdAt.drewN ?_ _ | refine RdAt.drew ?_ | refine RdAt.below ?_ h2 | refine RdAt.below ?_ h1)))) ?_; rintro r3 w3 ⟨rfl, h3, u3⟩; have hz3 := u3.size; (try simp at hz3); have g0 := h3.bg.c0; have g8 := h3.dk.c8; have g9 := h3.dk.c9; rw [f1] at g8; rw [f2] at g9))
    go_wp2
    go_ret
    refine ⟨rfl, ?_, ?_⟩
    · repeat (with_reducible first | exact h3 | refine r_o ?_ _ | refine RdAt.alloc ?_ _ | refine RdAt.drewN ?_ _ | refine RdAt.drew ?_)
    · repeat (with_reducible first | exact Upd.refl _ _ | refine u_s ?_ _ | refine Upd.alloc ?_ _ | refine Upd.drewN ?_ _ | refine Upd.drew ?_ | refine Upd.trans ?_ (Upd.mono u3 (by simp)) | refine Upd.below ?_ h2 | refine Upd.below ?_ h1)
  · subst hp
    go_enter Tryz.func145, Tryz.ntmps145
    go_wp2_with fail
    go_region_held3 (fun ww => ww.cell? ⟨r, 0, none⟩ = some (.pointer (some ⟨d, 0, none⟩)) ∧ ww.cell? ⟨r, 5, none⟩ = some (.int .u8 116)) ((refine ⟨?_, ?_⟩ <;> go_simp)) (fail)
    go_wp2_with fail
    go_region_held3 (fun ww => ww.cell? ⟨r, 0, none⟩ = some (.pointer (some ⟨d, 0, none⟩)) ∧ ww.cell? ⟨d, 8, none⟩ = some (.int .u8 116) ∧ ww.cell? ⟨d, 9, none⟩ = some (.int .u8 key)) ((refine ⟨?_, ?_, ?_⟩ <;> (first | (go_simp; done) | ((repeat (first | with_reducible assumption | (with_reducible refine memLater ((Below.refl _ _).alloc (Nat.le_refl _) _) ?_) | (with_reducible refine memLater ((Below.refl _ _).drew) ?_) | (with_reducible refine memLater h1 ?_) | (with_reducible refine memLater h2 ?_) | (with_reducible refine (memSet (by omega)).trans ?_) | (go_simp; done))); done)))) (first | (go_at_call 168; refine Calls.mono (HS.out _ (by (repeat (with_reducible first | exact H0 | refine HP.out _ ?_ | refine RdAt.drewN ?_ _ | refine RdAt.drew ?_)))) ?_; rintro r1 w1 ⟨rfl, h1⟩; have hz1 := h1.size; (try simp at hz1); (try have hl1_0 : d < w1.heap.size := (by omega)); (try have hk1_0 : d < w1.heap.size + 1 := (by omega)); (try have hl1_1 : r < w1.heap.size := (by omega)); (try have hk1_1 : r < w1.heap.size + 1 := (by omega))) | (go_at_call 167; refine Calls.mono (HG.out _) ?_; rintro r2 w2 ⟨rfl, h2⟩; have hz2 := h2.size; (try simp at hz2); (try have hl2_0 : d < w2.heap.size := (by omega)); (try have hk2_0 : d < w2.heap.size + 1 := (by omega)); (try have hl2_1 : r < w2.heap.size := (by omega)); (try have hk2_1 : r < w2.heap.size + 1 := (by omega))) | (go_at_call 166; refine Calls.mono (HA.out _ (by (repeat (with_reducible first | exact H0 | refine HP.out _ ?_ | refine RdAt.drewN ?_ _ | refine RdAt.drew ?_ | refine RdAt.below ?_ h2 | refine RdAt.below ?_ h1)))) ?_; rintro r3 w3 ⟨rfl, h3, u3⟩; have hz3 := u3.size; (try simp at hz3); have g0 := h3.bg.c0; have g8 := h3.dk.c8; have g9 := h3.dk.c9; rw [f1] at g8; rw [f2] at g9))
    go_wp2
    go_ret
    refine ⟨rfl, ?_, ?_⟩
    · repeat (with_reducible first | exact h3 | refine r_o ?_ _ | refine RdAt.alloc ?_ _ | refine RdAt.drewN ?_ _ | refine RdAt.drew ?_)
    · repeat (with_reducible first | exact Upd.refl _ _ | refine u_s ?_ _ | refine Upd.alloc ?_ _ | refine Upd.drewN ?_ _ | refine Upd.drew ?_ | refine Upd.trans ?_ (Upd.mono u3 (by simp)) | refine Upd.below ?_ h2 | refine Upd.below ?_ h1)
  · subst hp
    go_enter Tryz.func145, Tryz.ntmps145
    go_wp2_with fail
    go_region_held3 (fun ww => ww.cell? ⟨r, 0, none⟩ = some (.pointer (some ⟨d, 0, none⟩)) ∧ ww.cell? ⟨r, 5, none⟩ = some (.int .u8 70)) ((refine ⟨?_, ?_⟩ <;> go_simp)) (fail)
    go_wp2_with fail
    go_region_held3 (fun ww => ww.cell? ⟨r, 0, none⟩ = some (.pointer (some ⟨d, 0, none⟩)) ∧ ww.cell? ⟨d, 8, none⟩ = some (.int .u8 70) ∧ ww.cell? ⟨d, 9, none⟩ = some (.int .u8 key)) ((refine ⟨?_, ?_, ?_⟩ <;> (first | (go_simp; done) | ((repeat (first | with_reducible assumption | (with_reducible refine memLater ((Below.refl _ _).alloc (Nat.le_refl _) _) ?_) | (with_reducible refine memLater ((Below.refl _ _).drew) ?_) | (with_reducible refine memLater h1 ?_) | (with_reducible refine memLater h2 ?_) | (with_reducible refine (memSet (by omega)).trans ?_) | (go_simp; done))); done)))) (first | (go_at_call 168; refine Calls.mono (HS.out _ (by (repeat (with_reducible first | exact H0 | refine HP.out _ ?_ | refine RdAt.drewN ?_ _ | refine RdAt.drew ?_)))) ?_; rintro r1 w1 ⟨rfl, h1⟩; have hz1 := h1.size; (try simp at hz1); (try have hl1_0 : d < w1.heap.size := (by omega)); (try have hk1_0 : d < w1.heap.size + 1 := (by omega)); (try have hl1_1 : r < w1.heap.size := (by omega)); (try have hk1_1 : r < w1.heap.size + 1 := (by omega))) | (go_at_call 167; refine Calls.mono (HG.out _) ?_; rintro r2 w2 ⟨rfl, h2⟩; have hz2 := h2.size; (try simp at hz2); (try have hl2_0 : d < w2.heap.size := (by omega)); (try have hk2_0 : d < w2.heap.size + 1 := (by omega)); (try have hl2_1 : r < w2.heap.size := (by omega)); (try have hk2_1 : r < w2.heap.size + 1 := (by omega))) | (go_at_call 166; refine Calls.mono (HA.out _ (by (repeat (with_reducible first | exact H0 | refine HP.out _ ?_ | refine RdAt.drewN ?_ _ | refine RdAt.drew ?_ | refine RdAt.below ?_ h2 | refine RdAt.below ?_ h1)))) ?_; rintro r3 w3 ⟨rfl, h3, u3⟩; have hz3 := u3.size; (try simp at hz3); have g0 := h3.bg.c0; have g8 := h3.dk.c8; have g9 := h3.dk.c9; rw [f1] at g8; rw [f2] at g9))
    go_wp2
    go_ret
    refine ⟨rfl, ?_, ?_⟩
    · repeat (with_reducible first | exact h3 | refine r_o ?_ _ | refine RdAt.alloc ?_ _ | refine RdAt.drewN ?_ _ | refine RdAt.drew ?_)
    · repeat (with_reducible first | exact Upd.refl _ _ | refine u_s ?_ _ | refine Upd.alloc ?_ _ | refine Upd.drewN ?_ _ | refine Upd.drew ?_ | refine Upd.trans ?_ (Upd.mono u3 (by simp)) | refine Upd.below ?_ h2 | refine Upd.below ?_ h1)
  · subst hp
    go_enter Tryz.func145, Tryz.ntmps145
    go_wp2_with fail
    go_region_held3 (fun ww => ww.cell? ⟨r, 0, none⟩ = some (.pointer (some ⟨d, 0, none⟩)) ∧ ww.cell? ⟨r, 5, none⟩ = some (.int .u8 84)) ((refine ⟨?_, ?_⟩ <;> go_simp)) (fail)
    go_wp2_with fail
    go_region_held3 (fun ww => ww.cell? ⟨r, 0, none⟩ = some (.pointer (some ⟨d, 0, none⟩)) ∧ ww.cell? ⟨d, 8, none⟩ = some (.int .u8 84) ∧ ww.cell? ⟨d, 9, none⟩ = some (.int .u8 key)) ((refine ⟨?_, ?_, ?_⟩ <;> (first | (go_simp; done) | ((repeat (first | with_reducible assumption | (with_reducible refine memLater ((Below.refl _ _).alloc (Nat.le_refl _) _) ?_) | (with_reducible refine memLater ((Below.refl _ _).drew) ?_) | (with_reducible refine memLater h1 ?_) | (with_reducible refine memLater h2 ?_) | (with_reducible refine (memSet (by omega)).trans ?_) | (go_simp; done))); done)))) (first | (go_at_call 168; refine Calls.mono (HS.out _ (by (repeat (with_reducible first | exact H0 | refine HP.out _ ?_ | refine RdAt.drewN ?_ _ | refine RdAt.drew ?_)))) ?_; rintro r1 w1 ⟨rfl, h1⟩; have hz1 := h1.size; (try simp at hz1); (try have hl1_0 : d < w1.heap.size := (by omega)); (try have hk1_0 : d < w1.heap.size + 1 := (by omega)); (try have hl1_1 : r < w1.heap.size := (by omega)); (try have hk1_1 : r < w1.heap.size + 1 := (by omega))) | (go_at_call 167; refine Calls.mono (HG.out _) ?_; rintro r2 w2 ⟨rfl, h2⟩; have hz2 := h2.size; (try simp at hz2); (try have hl2_0 : d < w2.heap.size := (by omega)); (try have hk2_0 : d < w2.heap.size + 1 := (by omega)); (try have hl2_1 : r < w2.heap.size := (by omega)); (try have hk2_1 : r < w2.heap.size + 1 := (by omega))) | (go_at_call 166; refine Calls.mono (HA.out _ (by (repeat (with_reducible first | exact H0 | refine HP.out _ ?_ | refine RdAt.drewN ?_ _ | refine RdAt.drew ?_ | refine RdAt.below ?_ h2 | refine RdAt.below ?_ h1)))) ?_; rintro r3 w3 ⟨rfl, h3, u3⟩; have hz3 := u3.size; (try simp at hz3); have g0 := h3.bg.c0; have g8 := h3.dk.c8; have g9 := h3.dk.c9; rw [f1] at g8; rw [f2] at g9))
    go_wp2
    go_ret
    refine ⟨rfl, ?_, ?_⟩
    · repeat (with_reducible first | exact h3 | refine r_o ?_ _ | refine RdAt.alloc ?_ _ | refine RdAt.drewN ?_ _ | refine RdAt.drew ?_)
    · repeat (with_reducible first | exact Upd.refl _ _ | refine u_s ?_ _ | refine Upd.alloc ?_ _ | refine Upd.drewN ?_ _ | refine Upd.drew ?_ | refine Upd.trans ?_ (Upd.mono u3 (by simp)) | refine Upd.below ?_ h2 | refine Upd.below ?_ h1)
end Go.Proofs.YtlendfhehhacpaaGreat
