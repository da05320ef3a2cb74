/- Joined of the texts WalkR, WalkS. -/
import Derived.Test.YtlendfhehhacpaaGreatP18
set_option linter.unusedVariables false
set_option linter.unusedSimpArgs false
set_option maxRecDepth 100000
set_option maxHeartbeats 8000000
namespace Go.Proofs.YtlendfhehhacpaaGreat
open Go.RowKit
structure Plain (x : Nib.Cmd) : Prop where
  o120 : (x.other == 120) = false
  o88 : (x.other == 88) = false
  o68 : (x.other == 68) = false
  o67 : (x.other == 67) = false
  o115 : (x.other == 115) = false
  o83 : (x.other == 83) = false
  o89 : (x.other == 89) = false
  o117 : (x.other != 117) = true
  o18 : (x.other != 18) = true
  o46 : (x.other == 46) = false
theorem plain_of {x : Nib.Cmd} (h : x.other = 0 ∨ x.other = 118 ∨ x.other = 86) : Plain x := by
  rcases h with h | h | h <;> constructor <;> simp [h]
theorem short_same (x : Nib.Cmd) (w : World) (h : Plain x) :
    Calls Tryz.prog 76 #[.agg #[.bool x.more, .bool x.bad, .int .i64 x.reg, .int .i64 x.n, .bool x.given, .int .u8 x.verb, .bool x.twice, .int .u8 x.object, .bool x.around, .int .u8 x.way, .int .u8 x.other, .int .u8 x.c]] w fun r w' => r = .returned (.agg #[.bool x.more, .bool x.bad, .int .i64 x.reg, .int .i64 x.n, .bool x.given, .int .u8 x.verb, .bool x.twice, .int .u8 x.object, .bool x.around, .int .u8 x.way, .int .u8 x.other, .int .u8 x.c]) ∧ Below w.heap.size w w' := by
  obtain ⟨h1, h2, h3, h4, h5, h6, h7, h8, h9, h10⟩ := h
  go_enter Tryz.func76, Tryz.ntmps76
  go_wp2
  refine bodyPost_ret (v := .agg #[.bool x.more, .bool x.bad, .int .i64 x.reg, .int .i64 x.n, .bool x.given, .int .u8 x.verb, .bool x.twice, .int .u8 x.object, .bool x.around, .int .u8 x.way, .int .u8 x.other, .int .u8 x.c]) (by simp [results, Tryz.results76, go_sem]) rfl ⟨rfl, ?_⟩
  repeat (with_reducible first | exact Below.refl _ _ | refine b_s ?_ _ | refine b_a ?_ _ | refine Below.drew ?_ | refine below_drewN ?_ _)
theorem changed_same (b : Nat) (e : Nib.Ed) (dv uv : Value) (w : World) (h : EdAt w b e dv uv) :
    Calls Tryz.prog 51 #[.pointer (some ⟨b, 0, none⟩), .string e.t] w fun r w' => r = .returned (.tuple #[]) ∧ w' = w := by
  obtain ⟨c0, _, _, _, _, _, _, _, _, _, _, _, _, _, _, _, _, _, fz, lt⟩ := h
  go_enter Tryz.func51, Tryz.ntmps51
  go_wp2
  first | go_end0 | refine bodyPost_ret (results_none rfl _ _ _) rfl ?_
  exact ⟨rfl, rfl⟩
theorem ends_quiet (b : Nat) (e : Nib.Ed) (x : Nib.Cmd) (keys : ByteArray) (dv uv : Value) (w : World) (h : EdAt w b e dv uv) (hm : ¬ e.mode = 1) (hx : Plain x) :
    Calls Tryz.prog 63 #[.pointer (some ⟨b, 0, none⟩), .string e.t, .bool false, .string keys, .agg #[.bool x.more, .bool x.bad, .int .i64 x.reg, .int .i64 x.n, .bool x.given, .int .u8 x.verb, .bool x.twice, .int .u8 x.object, .bool x.around, .int .u8 x.way, .int .u8 x.other, .int .u8 x.c]] w fun r w' => r = .returned (.tuple #[]) ∧ Below w.heap.size w w' := by
  have H := h
  obtain ⟨_, _, _, c3, _, _, _, _, _, _, _, _, _, _, _, _, _, _, fz, lt⟩ := h
  have hm' : (e.mode == 1) = false := by simp [hm]
  have l1 : b < w.heap.size + 1 := by omega
  have h17 := hx.o117
  have h18 := hx.o18
  clear hm hx
  go_enter Tryz.func63, Tryz.ntmps63
  go_wp2_with fail
  refine (changed_same b e dv uv _ (by first | exact H.alloc _ | exact H)).mono ?_
  rintro r w' ⟨rfl, rfl⟩
  go_wp2
  go_end0
  refine ⟨rfl, ?_⟩
  repeat (with_reducible first | exact Below.refl _ _ | refine b_s ?_ _ | refine b_a ?_ _ | refine Below.drew ?_ | refine below_drewN ?_ _)
structure XAt (w : World) (n : Nat) (x : Nib.Cmd) : Prop where
  x0 : w.cell? ⟨n, 0, none⟩ = some (.bool x.more)
  x1 : w.cell? ⟨n, 1, none⟩ = some (.bool x.bad)
  x2 : w.cell? ⟨n, 2, none⟩ = some (.int .i64 x.reg)
  x3 : w.cell? ⟨n, 3, none⟩ = some (.int .i64 x.n)
  x4 : w.cell? ⟨n, 4, none⟩ = some (.bool x.given)
  x5 : w.cell? ⟨n, 5, none⟩ = some (.int .u8 x.verb)
  x6 : w.cell? ⟨n, 6, none⟩ = some (.bool x.twice)
  x7 : w.cell? ⟨n, 7, none⟩ = some (.int .u8 x.object)
  x8 : w.cell? ⟨n, 8, none⟩ = some (.bool x.around)
  x9 : w.cell? ⟨n, 9, none⟩ = some (.int .u8 x.way)
  x10 : w.cell? ⟨n, 10, none⟩ = some (.int .u8 x.other)
  x11 : w.cell? ⟨n, 11, none⟩ = some (.int .u8 x.c)
  fz : ∀ o, w.frozen? ⟨n, o, none⟩ = false
  lt : n < w.heap.size
theorem cell_set_some {w : World} {n o k : Nat} {v : Value} (h : ∃ u, w.cell? ⟨n, k, none⟩ = some u) : ∃ u, (w.setCell ⟨n, o, none⟩ v).cell? ⟨n, k, none⟩ = some u := by
  by_cases e : o = k
  · subst e; obtain ⟨u, hu⟩ := h; exact ⟨v, cell_set_same hu⟩
  · rw [cell_set_off e]; exact h
theorem cell_set_ex {w : World} {n o : Nat} {v : Value} (h : ∃ u, w.cell? ⟨n, o, none⟩ = some u) : (w.setCell ⟨n, o, none⟩ v).cell? ⟨n, o, none⟩ = some v := by
  obtain ⟨u, hu⟩ := h; exact cell_set_same hu
theorem xat_set {w : World} {n : Nat} (x : Nib.Cmd) (hz : n < w.heap.size) (hc : ∀ k, k < 12 → ∃ v, w.cell? ⟨n, k, none⟩ = some v) (hf : ∀ o, w.frozen? ⟨n, o, none⟩ = false) : XAt (World.setCell (World.setCell (World.setCell (World.setCell (World.setCell (World.setCell (World.setCell (World.setCell (World.setCell (World.setCell (World.setCell (World.setCell w ⟨n, 0, none⟩ (.bool x.more)) ⟨n, 1, none⟩ (.bool x.bad)) ⟨n, 2, none⟩ (.int .i64 x.reg)) ⟨n, 3, none⟩ (.int .i64 x.n)) ⟨n, 4, none⟩ (.bool x.given)) ⟨n, 5, none⟩ (.int .u8 x.verb)) ⟨n, 6, none⟩ (.bool x.twice)) ⟨n, 7, none⟩ (.int .u8 x.object)) ⟨n, 8, none⟩ (.bool x.around)) ⟨n, 9, none⟩ (.int .u8 x.way)) ⟨n, 10, none⟩ (.int .u8 x.other)) ⟨n, 11, none⟩ (.int .u8 x.c)) n x := by
  refine ⟨?_, ?_, ?_, ?_, ?_, ?_, ?_, ?_, ?_, ?_, ?_, ?_, ?_, ?_⟩
  case refine_13 => intro o; simp only [World.frozen?_setCell]; exact hf o
  case refine_14 => simp [World.setCell]; exact hz
  all_goals
    repeat (first | (with_reducible refine cell_set_ex ?_) | (with_reducible refine (cell_set_off (by decide)).trans ?_))
    repeat (with_reducible refine cell_set_some ?_)
    exact hc _ (by decide)
theorem XAt.of_block {w w' : World} {n : Nat} {x : Nib.Cmd} (h : XAt w n x) (hb : w'.heap[n]? = w.heap[n]?) (hz : w.heap.size ≤ w'.heap.size) : XAt w' n x := by
  have hc : ∀ o, w'.cell? ⟨n, o, none⟩ = w.cell? ⟨n, o, none⟩ := fun o => World.cell?_of_block (w := w) hb
  have hf : ∀ o, w'.frozen? ⟨n, o, none⟩ = w.frozen? ⟨n, o, none⟩ := fun o => World.frozen?_of_block (w := w) hb
  exact ⟨(hc _).trans h.x0, (hc _).trans h.x1, (hc _).trans h.x2, (hc _).trans h.x3, (hc _).trans h.x4, (hc _).trans h.x5, (hc _).trans h.x6, (hc _).trans h.x7, (hc _).trans h.x8, (hc _).trans h.x9, (hc _).trans h.x10, (hc _).trans h.x11, fun o => (hf o).trans (h.fz o), Nat.lt_of_lt_of_le h.lt hz⟩
theorem XAt.below {w w' : World} {n : Nat} {x : Nib.Cmd} (h : XAt w n x) (hb : Below w.heap.size w w') : XAt w' n x := h.of_block (hb.block n h.lt) hb.size
theorem XAt.upd {S : List Nat} {w w' : World} {n : Nat} {x : Nib.Cmd} (h : XAt w n x) (hu : Upd S w w') (hn : n ∉ S) : XAt w' n x := h.of_block (hu.block n h.lt hn) hu.size
def markEd (e : Nib.Ed) (x : Nib.Cmd) : Nib.Ed := { e with anchor := e.p, mode := if x.other = 86 then 3 else 2 }
theorem normal_way (b : Nat) (e : Nib.Ed) (x : Nib.Cmd) (dv uv : Value) (w : World) (h : EdAt w b e dv uv) (hs : e.t.size ≤ 1000) (hp : e.p ≤ e.t.size) (hn1 : 1 ≤ x.n) (hn : x.n ≤ 99)
    (hw : Nib.isWay x.way = true ∨ x.way = 59 ∨ x.way = 44) (hf : findOk e) (hc27 : ¬ x.c = 27) (hv : x.verb = 0) (ho : x.other = 0) :
    Calls Tryz.prog 62 #[.pointer (some ⟨b, 0, none⟩), .agg #[.bool x.more, .bool x.bad, .int .i64 x.reg, .int .i64 x.n, .bool x.given, .int .u8 x.verb, .bool x.twice, .int .u8 x.object, .bool x.around, .int .u8 x.way, .int .u8 x.other, .int .u8 x.c]] w fun r w' =>
      r = .returned (.bool (goesOk e x)) ∧ EdAt w' b (goesEd e x) dv uv ∧ Upd [b] w w' := by
  have lt := h.lt
  have hpl := plain_of (x := x) (Or.inl ho)
  have HC : Hid (∀ ww, EdAt ww b e dv uv → Calls Tryz.prog 70 #[.pointer (some ⟨b, 0, none⟩), .agg #[.bool x.more, .bool x.bad, .int .i64 x.reg, .int .i64 x.n, .bool x.given, .int .u8 x.verb, .bool x.twice, .int .u8 x.object, .bool x.around, .int .u8 x.way, .int .u8 x.other, .int .u8 x.c]] ww fun r w' =>
      r = .returned (.bool (goesOk e x)) ∧ EdAt w' b (goesEd e x) dv uv ∧ Upd [b] ww w') :=
    fun ww hh => goes_any b e x dv uv ww hh hs hp hn1 hn hw hf hc27
  have hwz : (x.way != 0) = true := by
    simp only [bne_iff_ne, ne_eq]
    rintro hz
    rw [hz] at hw
    revert hw; decide
  have hvz : (x.verb != 0) = false := by simp [hv]
  have HS : Hid (∀ ww, Calls Tryz.prog 76 #[.agg #[.bool x.more, .bool x.bad, .int .i64 x.reg, .int .i64 x.n, .bool x.given, .int .u8 x.verb, .bool x.twice, .int .u8 x.object, .bool x.around, .int .u8 x.way, .int .u8 x.other, .int .u8 x.c]] ww fun r w' => r = .returned (.agg #[.bool x.more, .bool x.bad, .int .i64 x.reg, .int .i64 x.n, .bool x.given, .int .u8 x.verb, .bool x.twice, .int .u8 x.object, .bool x.around, .int .u8 x.way, .int .u8 x.other, .int .u8 x.c]) ∧ Below ww.heap.size ww w') := fun ww => short_same x ww hpl
  have hbb := Nib.beg_le e.t e.p
  have HBe : Hid (∀ ww, Calls Tryz.prog 50 #[.string e.t, .int .i64 e.p] ww fun r w' => r = .returned (.int .i64 (Nib.beg e.t e.p)) ∧ w' = ww) := fun ww => begin_at e.t e.p e.p ww hs rfl hp
  have HEm : Hid (∀ ww, Calls Tryz.prog 77 #[.string e.t, .int .i64 (Nib.beg e.t e.p)] ww fun r w' => r = .returned (.bool (Nib.emp e.t (Nib.beg e.t e.p))) ∧ w' = ww) := fun ww => empty_at e.t _ (Nib.beg e.t e.p) ww hs rfl (by omega)
  have h115 := hpl.o115
  have h67 := hpl.o67
  have h68 := hpl.o68
  generalize goesOk e x = ok at *
  generalize goesEd e x = e2 at *
  generalize Nib.emp e.t (Nib.beg e.t e.p) = nn at *
  clear hw hf hc27 hn1 hn hv ho hpl
  go_enter Tryz.func62, Tryz.ntmps62
  go_wp2_with fail
  refine Calls.mono (HS.out _) ?_
  rintro r w1 ⟨rfl, h1⟩
  obtain ⟨hc1, hf1⟩ := bcell h1
  have hz1 := h1.size
  simp at hz1
  have hh := (h.alloc (.cells #[.bool x.more, .bool x.bad, .int .i64 x.reg, .int .i64 x.n, .bool x.given, .int .u8 x.verb, .bool x.twice, .int .u8 x.object, .bool x.around, .int .u8 x.way, .int .u8 x.other, .int .u8 x.c] 103)).below h1
  obtain ⟨c0, c1, _, _, _, _, _, _, _, _, _, _, _, _, _, _, _, _, fz, lt1⟩ := id hh
  have hx2 : XAt (World.setCell (World.setCell (World.setCell (World.setCell (World.setCell (World.setCell (World.setCell (World.setCell (World.setCell (World.setCell (World.setCell (World.setCell w1 ⟨w.heap.size, 0, none⟩ (.bool x.more)) ⟨w.heap.size, 1, none⟩ (.bool x.bad)) ⟨w.heap.size, 2, none⟩ (.int .i64 x.reg)) ⟨w.heap.size, 3, none⟩ (.int .i64 x.n)) ⟨w.heap.size, 4, none⟩ (.bool x.given)) ⟨w.heap.size, 5, none⟩ (.int .u8 x.verb)) ⟨w.heap.size, 6, none⟩ (.bool x.twice)) ⟨w.heap.size, 7, none⟩ (.int .u8 x.object)) ⟨w.heap.size, 8, none⟩ (.bool x.around)) ⟨w.heap.size, 9, none⟩ (.int .u8 x.way)) ⟨w.heap.size, 10, none⟩ (.int .u8 x.other)) ⟨w.heap.size, 11, none⟩ (.int .u8 x.c)) w.heap.size x := by
    refine xat_set x (by omega) (fun k hk => ?_) (fun o => ?_)
    · rw [hc1 _ _ (by simp)]
      have hd : k = 0 ∨ k = 1 ∨ k = 2 ∨ k = 3 ∨ k = 4 ∨ k = 5 ∨ k = 6 ∨ k = 7 ∨ k = 8 ∨ k = 9 ∨ k = 10 ∨ k = 11 := by omega
      rcases hd with rfl | rfl | rfl | rfl | rfl | rfl | rfl | rfl | rfl | rfl | rfl | rfl <;> simp [go_sem]
    · rw [hf1 _ _ (by simp)]; simp
  have hh2 : EdAt (World.setCell (World.setCell (World.setCell (World.setCell (World.setCell (World.setCell (World.setCell (World.setCell (World.setCell (World.setCell (World.setCell (World.setCell w1 ⟨w.heap.size, 0, none⟩ (.bool x.more)) ⟨w.heap.size, 1, none⟩ (.bool x.bad)) ⟨w.heap.size, 2, none⟩ (.int .i64 x.reg)) ⟨w.heap.size, 3, none⟩ (.int .i64 x.n)) ⟨w.heap.size, 4, none⟩ (.bool x.given)) ⟨w.heap.size, 5, none⟩ (.int .u8 x.verb)) ⟨w.heap.size, 6, none⟩ (.bool x.twice)) ⟨w.heap.size, 7, none⟩ (.int .u8 x.object)) ⟨w.heap.size, 8, none⟩ (.bool x.around)) ⟨w.heap.size, 9, none⟩ (.int .u8 x.way)) ⟨w.heap.size, 10, none⟩ (.int .u8 x.other)) ⟨w.heap.size, 11, none⟩ (.int .u8 x.c)) b e dv uv := by
    repeat (with_reducible first | exact hh | refine e_o ?_ _ | refine EdAt.alloc ?_ _ | refine EdAt.drewN ?_ _ | refine EdAt.drew ?_)
  have hu2 : Upd [b] w (World.setCell (World.setCell (World.setCell (World.setCell (World.setCell (World.setCell (World.setCell (World.setCell (World.setCell (World.setCell (World.setCell (World.setCell w1 ⟨w.heap.size, 0, none⟩ (.bool x.more)) ⟨w.heap.size, 1, none⟩ (.bool x.bad)) ⟨w.heap.size, 2, none⟩ (.int .i64 x.reg)) ⟨w.heap.size, 3, none⟩ (.int .i64 x.n)) ⟨w.heap.size, 4, none⟩ (.bool x.given)) ⟨w.heap.size, 5, none⟩ (.int .u8 x.verb)) ⟨w.heap.size, 6, none⟩ (.bool x.twice)) ⟨w.heap.size, 7, none⟩ (.int .u8 x.object)) ⟨w.heap.size, 8, none⟩ (.bool x.around)) ⟨w.heap.size, 9, none⟩ (.int .u8 x.way)) ⟨w.heap.size, 10, none⟩ (.int .u8 x.other)) ⟨w.heap.size, 11, none⟩ (.int .u8 x.c)) := by
    repeat (with_reducible first | exact Upd.refl _ _ | assumption | refine u_s ?_ _ | refine Upd.alloc ?_ _ | refine Upd.drewN ?_ _ | refine Upd.drew ?_ | refine Upd.below ?_ h1)
  go_wp2_with fail
  clear hh hc1 hf1 hz1 c0 c1 fz lt1
  generalize (World.setCell (World.setCell (World.setCell (World.setCell (World.setCell (World.setCell (World.setCell (World.setCell (World.setCell (World.setCell (World.setCell (World.setCell w1 ⟨w.heap.size, 0, none⟩ (.bool x.more)) ⟨w.heap.size, 1, none⟩ (.bool x.bad)) ⟨w.heap.size, 2, none⟩ (.int .i64 x.reg)) ⟨w.heap.size, 3, none⟩ (.int .i64 x.n)) ⟨w.heap.size, 4, none⟩ (.bool x.given)) ⟨w.heap.size, 5, none⟩ (.int .u8 x.verb)) ⟨w.heap.size, 6, none⟩ (.bool x.twice)) ⟨w.heap.size, 7, none⟩ (.int .u8 x.object)) ⟨w.heap.size, 8, none⟩ (.bool x.around)) ⟨w.heap.size, 9, none⟩ (.int .u8 x.way)) ⟨w.heap.size, 10, none⟩ (.int .u8 x.other)) ⟨w.heap.size, 11, none⟩ (.int .u8 x.c)) = W2 at *
  obtain ⟨x0, x1, x2, x3, x4, x5, x6, x7, x8, x9, x10, x11, xfz, xlt⟩ := id hx2
  obtain ⟨c0, c1, _, _, _, _, _, _, _, _, _, _, _, _, _, _, _, _, fz, lt1⟩ := id hh2
  go_region_held3 (fun ww => ww.cell? ⟨b, 0, none⟩ = some (.string e.t) ∧ ww.cell? ⟨b, 1, none⟩ = some (.int .i64 e.p)) (first | go_keep | (refine ⟨?_, ?_⟩ <;> go_simp)) (first | (go_at_call 50; refine Calls.mono (HBe.out _) ?_; rintro r w3 ⟨rfl, rfl⟩) | (go_at_call 77; refine Calls.mono (HEm.out _) ?_; rintro r w3 ⟨rfl, rfl⟩))
  cases nn
  all_goals
    go_wp2_with fail
    refine Calls.mono (HC.out _ hh2.drew) ?_
    rintro r w5 ⟨rfl, h5, hu5⟩
    go_wp2
    go_ret
    exact ⟨rfl, h5, (hu2.drew).trans hu5⟩
theorem normal_mark (b : Nat) (e : Nib.Ed) (x : Nib.Cmd) (dv uv : Value) (w : World) (h : EdAt w b e dv uv) (hs : e.t.size ≤ 1000) (hp : e.p ≤ e.t.size)
    (hw : x.way = 0) (hv : x.verb = 0) (ho : x.other = 118 ∨ x.other = 86) :
    Calls Tryz.prog 62 #[.pointer (some ⟨b, 0, none⟩), .agg #[.bool x.more, .bool x.bad, .int .i64 x.reg, .int .i64 x.n, .bool x.given, .int .u8 x.verb, .bool x.twice, .int .u8 x.object, .bool x.around, .int .u8 x.way, .int .u8 x.other, .int .u8 x.c]] w fun r w' =>
      r = .returned (.bool true) ∧ EdAt w' b (markEd e x) dv uv ∧ Upd [b] w w' := by
  have lt := h.lt
  have hpl := plain_of (x := x) (Or.inr ho)
  have hwz : (x.way != 0) = false := by simp [hw]
  have hvz : (x.verb != 0) = false := by simp [hv]
  have HS : Hid (∀ ww, Calls Tryz.prog 76 #[.agg #[.bool x.more, .bool x.bad, .int .i64 x.reg, .int .i64 x.n, .bool x.given, .int .u8 x.verb, .bool x.twice, .int .u8 x.object, .bool x.around, .int .u8 x.way, .int .u8 x.other, .int .u8 x.c]] ww fun r w' => r = .returned (.agg #[.bool x.more, .bool x.bad, .int .i64 x.reg, .int .i64 x.n, .bool x.given, .int .u8 x.verb, .bool x.twice, .int .u8 x.object, .bool x.around, .int .u8 x.way, .int .u8 x.other, .int .u8 x.c]) ∧ Below ww.heap.size ww w') := fun ww => short_same x ww hpl
  have hbb := Nib.beg_le e.t e.p
  have HBe : Hid (∀ ww, Calls Tryz.prog 50 #[.string e.t, .int .i64 e.p] ww fun r w' => r = .returned (.int .i64 (Nib.beg e.t e.p)) ∧ w' = ww) := fun ww => begin_at e.t e.p e.p ww hs rfl hp
  have HEm : Hid (∀ ww, Calls Tryz.prog 77 #[.string e.t, .int .i64 (Nib.beg e.t e.p)] ww fun r w' => r = .returned (.bool (Nib.emp e.t (Nib.beg e.t e.p))) ∧ w' = ww) := fun ww => empty_at e.t _ (Nib.beg e.t e.p) ww hs rfl (by omega)
  have h115 := hpl.o115
  have h67 := hpl.o67
  have h68 := hpl.o68
  have g112 : (x.other == 112) = false := by rcases ho with h | h <;> simp [h]
  have g80 : (x.other == 80) = false := by rcases ho with h | h <;> simp [h]
  have g114 : (x.other == 114) = false := by rcases ho with h | h <;> simp [h]
  have g126 : (x.other == 126) = false := by rcases ho with h | h <;> simp [h]
  have g74 : (x.other == 74) = false := by rcases ho with h | h <;> simp [h]
  generalize Nib.emp e.t (Nib.beg e.t e.p) = nn at *
  clear hw hv hpl
  go_enter Tryz.func62, Tryz.ntmps62
  go_wp2_with fail
  refine Calls.mono (HS.out _) ?_
  rintro r w1 ⟨rfl, h1⟩
  obtain ⟨hc1, hf1⟩ := bcell h1
  have hz1 := h1.size
  simp at hz1
  have hh := (h.alloc (.cells #[.bool x.more, .bool x.bad, .int .i64 x.reg, .int .i64 x.n, .bool x.given, .int .u8 x.verb, .bool x.twice, .int .u8 x.object, .bool x.around, .int .u8 x.way, .int .u8 x.other, .int .u8 x.c] 103)).below h1
  have hx2 : XAt (World.setCell (World.setCell (World.setCell (World.setCell (World.setCell (World.setCell (World.setCell (World.setCell (World.setCell (World.setCell (World.setCell (World.setCell w1 ⟨w.heap.size, 0, none⟩ (.bool x.more)) ⟨w.heap.size, 1, none⟩ (.bool x.bad)) ⟨w.heap.size, 2, none⟩ (.int .i64 x.reg)) ⟨w.heap.size, 3, none⟩ (.int .i64 x.n)) ⟨w.heap.size, 4, none⟩ (.bool x.given)) ⟨w.heap.size, 5, none⟩ (.int .u8 x.verb)) ⟨w.heap.size, 6, none⟩ (.bool x.twice)) ⟨w.heap.size, 7, none⟩ (.int .u8 x.object)) ⟨w.heap.size, 8, none⟩ (.bool x.around)) ⟨w.heap.size, 9, none⟩ (.int .u8 x.way)) ⟨w.heap.size, 10, none⟩ (.int .u8 x.other)) ⟨w.heap.size, 11, none⟩ (.int .u8 x.c)) w.heap.size x := by
    refine xat_set x (by omega) (fun k hk => ?_) (fun o => ?_)
    · rw [hc1 _ _ (by simp)]
      have hd : k = 0 ∨ k = 1 ∨ k = 2 ∨ k = 3 ∨ k = 4 ∨ k = 5 ∨ k = 6 ∨ k = 7 ∨ k = 8 ∨ k = 9 ∨ k = 10 ∨ k = 11 := by omega
      rcases hd with rfl | rfl | rfl | rfl | rfl | rfl | rfl | rfl | rfl | rfl | rfl | rfl <;> simp [go_sem]
    · rw [hf1 _ _ (by simp)]; simp
  have hh2 : EdAt (World.setCell (World.setCell (World.setCell (World.setCell (World.setCell (World.setCell (World.setCell (World.setCell (World.setCell (World.setCell (World.setCell (World.setCell w1 ⟨w.heap.size, 0, none⟩ (.bool x.more)) ⟨w.heap.size, 1, none⟩ (.bool x.bad)) ⟨w.heap.size, 2, none⟩ (.int .i64 x.reg)) ⟨w.heap.size, 3, none⟩ (.int .i64 x.n)) ⟨w.heap.size, 4, none⟩ (.bool x.given)) ⟨w.heap.size, 5, none⟩ (.int .u8 x.verb)) ⟨w.heap.size, 6, none⟩ (.bool x.twice)) ⟨w.heap.size, 7, none⟩ (.int .u8 x.object)) ⟨w.heap.size, 8, none⟩ (.bool x.around)) ⟨w.heap.size, 9, none⟩ (.int .u8 x.way)) ⟨w.heap.size, 10, none⟩ (.int .u8 x.other)) ⟨w.heap.size, 11, none⟩ (.int .u8 x.c)) b e dv uv := by
    repeat (with_reducible first | exact hh | refine e_o ?_ _ | refine EdAt.alloc ?_ _ | refine EdAt.drewN ?_ _ | refine EdAt.drew ?_)
  have hu2 : Upd [b] w (World.setCell (World.setCell (World.setCell (World.setCell (World.setCell (World.setCell (World.setCell (World.setCell (World.setCell (World.setCell (World.setCell (World.setCell w1 ⟨w.heap.size, 0, none⟩ (.bool x.more)) ⟨w.heap.size, 1, none⟩ (.bool x.bad)) ⟨w.heap.size, 2, none⟩ (.int .i64 x.reg)) ⟨w.heap.size, 3, none⟩ (.int .i64 x.n)) ⟨w.heap.size, 4, none⟩ (.bool x.given)) ⟨w.heap.size, 5, none⟩ (.int .u8 x.verb)) ⟨w.heap.size, 6, none⟩ (.bool x.twice)) ⟨w.heap.size, 7, none⟩ (.int .u8 x.object)) ⟨w.heap.size, 8, none⟩ (.bool x.around)) ⟨w.heap.size, 9, none⟩ (.int .u8 x.way)) ⟨w.heap.size, 10, none⟩ (.int .u8 x.other)) ⟨w.heap.size, 11, none⟩ (.int .u8 x.c)) := by
    repeat (with_reducible first | exact Upd.refl _ _ | assumption | refine u_s ?_ _ | refine Upd.alloc ?_ _ | refine Upd.drewN ?_ _ | refine Upd.drew ?_ | refine Upd.below ?_ h1)
  go_wp2_with fail
  clear hh hc1 hf1 hz1
  generalize (World.setCell (World.setCell (World.setCell (World.setCell (World.setCell (World.setCell (World.setCell (World.setCell (World.setCell (World.setCell (World.setCell (World.setCell w1 ⟨w.heap.size, 0, none⟩ (.bool x.more)) ⟨w.heap.size, 1, none⟩ (.bool x.bad)) ⟨w.heap.size, 2, none⟩ (.int .i64 x.reg)) ⟨w.heap.size, 3, none⟩ (.int .i64 x.n)) ⟨w.heap.size, 4, none⟩ (.bool x.given)) ⟨w.heap.size, 5, none⟩ (.int .u8 x.verb)) ⟨w.heap.size, 6, none⟩ (.bool x.twice)) ⟨w.heap.size, 7, none⟩ (.int .u8 x.object)) ⟨w.heap.size, 8, none⟩ (.bool x.around)) ⟨w.heap.size, 9, none⟩ (.int .u8 x.way)) ⟨w.heap.size, 10, none⟩ (.int .u8 x.other)) ⟨w.heap.size, 11, none⟩ (.int .u8 x.c)) = W2 at *
  obtain ⟨x0, x1, x2, x3, x4, x5, x6, x7, x8, x9, x10, x11, xfz, xlt⟩ := id hx2
  obtain ⟨c0, c1, c2, c3, _, _, _, _, _, _, _, _, _, _, _, _, _, _, fz, lt1⟩ := id hh2
  have lne : ¬ b = w.heap.size := by omega
  have lne' : ¬ w.heap.size = b := by omega
  go_region_held3 (fun ww => ww.cell? ⟨b, 0, none⟩ = some (.string e.t) ∧ ww.cell? ⟨b, 1, none⟩ = some (.int .i64 e.p)) (first | go_keep | (refine ⟨?_, ?_⟩ <;> go_simp)) (first | (go_at_call 50; refine Calls.mono (HBe.out _) ?_; rintro r w3 ⟨rfl, rfl⟩) | (go_at_call 77; refine Calls.mono (HEm.out _) ?_; rintro r w3 ⟨rfl, rfl⟩))
  rcases ho with ho | ho
  · have g118 : (x.other == 118) = true := by simp [ho]
    have g86 : (x.other == 86) = false := by simp [ho]
    have HM : Hid (markEd e x = { e with anchor := e.p, mode := 2 }) := by simp [Hid, markEd, ho]
    have HF := (hh2.set_anchor e.p).set_mode 2
    clear ho
    cases nn
    all_goals
      go_wp2
      go_ret
      refine ⟨rfl, ?_, ?_⟩
      · rw [HM.out]
        repeat (with_reducible first | exact HF | refine e_o ?_ _ | refine EdAt.alloc ?_ _ | refine EdAt.drewN ?_ _ | refine EdAt.drew ?_)
      · refine Upd.trans hu2 ?_
        repeat (with_reducible first | exact Upd.refl _ _ | assumption | refine u_s ?_ _ | refine Upd.alloc ?_ _ | refine Upd.drewN ?_ _ | refine Upd.drew ?_)
  · have g118 : (x.other == 118) = false := by simp [ho]
    have g86 : (x.other == 86) = true := by simp [ho]
    have HM : Hid (markEd e x = { e with anchor := e.p, mode := 3 }) := by simp [Hid, markEd, ho]
    have HF := ((hh2.set_anchor e.p).set_mode 2).set_mode 3
    clear ho
    cases nn
    all_goals
      go_wp2
      go_ret
      refine ⟨rfl, ?_, ?_⟩
      · rw [HM.out]
        repeat (with_reducible first | exact HF | refine e_o ?_ _ | refine EdAt.alloc ?_ _ | refine EdAt.drewN ?_ _ | refine EdAt.drew ?_)
      · refine Upd.trans hu2 ?_
        repeat (with_reducible first | exact Upd.refl _ _ | assumption | refine u_s ?_ _ | refine Upd.alloc ?_ _ | refine Upd.drewN ?_ _ | refine Upd.drew ?_)
def kDoing : ByteArray := ⟨#[120, 88, 68, 67, 115, 83, 112, 80, 74, 126, 105, 73, 97, 65, 111, 79, 114]⟩
theorem does_quiet (b : Nat) (e e2 : Nib.Ed) (x : Nib.Cmd) (keys : ByteArray) (ok : Bool) (dv uv : Value) (w : World) (h : EdAt w b e dv uv) (hm : e.mode = 0) (hv : x.verb = 0) (hx : Plain x) (hd : Nib.mem kDoing x.other = false)
    (hm2 : ¬ e2.mode = 1) (ht : e2.t = e.t)
    (HN : ∀ ww, EdAt ww b e dv uv → Calls Tryz.prog 62 #[.pointer (some ⟨b, 0, none⟩), .agg #[.bool x.more, .bool x.bad, .int .i64 x.reg, .int .i64 x.n, .bool x.given, .int .u8 x.verb, .bool x.twice, .int .u8 x.object, .bool x.around, .int .u8 x.way, .int .u8 x.other, .int .u8 x.c]] ww fun r w' => r = .returned (.bool ok) ∧ EdAt w' b e2 dv uv ∧ Upd [b] ww w') :
    Calls Tryz.prog 44 #[.pointer (some ⟨b, 0, none⟩), .agg #[.bool x.more, .bool x.bad, .int .i64 x.reg, .int .i64 x.n, .bool x.given, .int .u8 x.verb, .bool x.twice, .int .u8 x.object, .bool x.around, .int .u8 x.way, .int .u8 x.other, .int .u8 x.c], .string keys] w fun r w' =>
      r = .returned (.int .i64 (if ok = true then 0 else 1)) ∧ EdAt w' b e2 dv uv ∧ Upd [b] w w' := by
  have H := h
  have HN' : Hid (∀ ww, EdAt ww b e dv uv → Calls Tryz.prog 62 #[.pointer (some ⟨b, 0, none⟩), .agg #[.bool x.more, .bool x.bad, .int .i64 x.reg, .int .i64 x.n, .bool x.given, .int .u8 x.verb, .bool x.twice, .int .u8 x.object, .bool x.around, .int .u8 x.way, .int .u8 x.other, .int .u8 x.c]] ww fun r w' => r = .returned (.bool ok) ∧ EdAt w' b e2 dv uv ∧ Upd [b] ww w') := HN
  clear HN
  obtain ⟨c0, _, _, c3, _, _, _, _, _, _, _, _, _, _, _, _, _, _, fz, lt⟩ := h
  rw [hm] at c3
  have l1 : b < w.heap.size + 1 := by omega
  have hvz : (x.verb != 0) = false := by simp [hv]
  have h46 := hx.o46
  have HE : Hid (∀ ww, EdAt ww b e2 dv uv → Calls Tryz.prog 63 #[.pointer (some ⟨b, 0, none⟩), .string e.t, .bool false, .string keys, .agg #[.bool x.more, .bool x.bad, .int .i64 x.reg, .int .i64 x.n, .bool x.given, .int .u8 x.verb, .bool x.twice, .int .u8 x.object, .bool x.around, .int .u8 x.way, .int .u8 x.other, .int .u8 x.c]] ww fun r w' => r = .returned (.tuple #[]) ∧ Below ww.heap.size ww w') := by
    intro ww hh
    have := ends_quiet b e2 x keys dv uv ww hh hm2 hx
    rw [ht] at this
    exact this
  clear hm hv hx hm2 ht
  go_enter Tryz.func44, Tryz.ntmps44
  go_wp2_with fail
  refine Calls.mono (HN'.out _ (H.alloc _)) ?_
  rintro r w1 ⟨rfl, h1, hu1⟩
  have hb1 := hu1.block w.heap.size (by simp) (by simp; omega)
  have hx1 : XAt w1 w.heap.size x := by
    refine XAt.of_block (w := w.alloc (.cells #[.bool x.more, .bool x.bad, .int .i64 x.reg, .int .i64 x.n, .bool x.given, .int .u8 x.verb, .bool x.twice, .int .u8 x.object, .bool x.around, .int .u8 x.way, .int .u8 x.other, .int .u8 x.c] 103)) ?_ hb1 hu1.size
    constructor <;> simp [go_sem]
  have hz1 := hu1.size
  simp at hz1
  obtain ⟨x0, x1, x2, x3, x4, x5, x6, x7, x8, x9, x10, x11, xfz, xlt⟩ := id hx1
  have hu : Upd [b] w w1 := (Upd.alloc (Upd.refl _ _) _).trans hu1
  clear hb1 hu1
  cases ok with
  | false =>
    go_wp2
    go_ret
    exact ⟨rfl, h1, hu⟩
  | true =>
    go_wp2_with fail
    refine (in_any kDoing _ _ (by decide)).mono ?_
    rintro e w' ⟨rfl, rfl⟩
    go_wp2_with fail
    refine Calls.mono (HE.out _ h1) ?_
    rintro r w2 ⟨rfl, h2⟩
    go_wp2
    go_ret
    exact ⟨rfl, h1.below h2, hu.below h2⟩
theorem marked_way (b : Nat) (e : Nib.Ed) (x : Nib.Cmd) (dv uv : Value) (w : World) (h : EdAt w b e dv uv) (hs : e.t.size ≤ 1000) (hp : e.p ≤ e.t.size) (hn1 : 1 ≤ x.n) (hn : x.n ≤ 99)
    (hw : Nib.isWay x.way = true ∨ x.way = 59 ∨ x.way = 44) (hf : findOk e) (hc27 : ¬ x.c = 27) :
    Calls Tryz.prog 60 #[.pointer (some ⟨b, 0, none⟩), .agg #[.bool x.more, .bool x.bad, .int .i64 x.reg, .int .i64 x.n, .bool x.given, .int .u8 x.verb, .bool x.twice, .int .u8 x.object, .bool x.around, .int .u8 x.way, .int .u8 x.other, .int .u8 x.c]] w fun r w' =>
      r = .returned (.bool (goesOk e x)) ∧ EdAt w' b (goesEd e x) dv uv ∧ Upd [b] w w' := by
  have HC : Hid (∀ ww, EdAt ww b e dv uv → Calls Tryz.prog 70 #[.pointer (some ⟨b, 0, none⟩), .agg #[.bool x.more, .bool x.bad, .int .i64 x.reg, .int .i64 x.n, .bool x.given, .int .u8 x.verb, .bool x.twice, .int .u8 x.object, .bool x.around, .int .u8 x.way, .int .u8 x.other, .int .u8 x.c]] ww fun r w' =>
      r = .returned (.bool (goesOk e x)) ∧ EdAt w' b (goesEd e x) dv uv ∧ Upd [b] ww w') :=
    fun ww hh => goes_any b e x dv uv ww hh hs hp hn1 hn hw hf hc27
  have hwz : (x.way != 0) = true := by
    simp only [bne_iff_ne, ne_eq]
    rintro hz
    rw [hz] at hw
    revert hw; decide
  generalize goesOk e x = ok at *
  generalize goesEd e x = e2 at *
  clear hw hf hc27 hn1 hn hs hp
  go_enter Tryz.func60, Tryz.ntmps60
  go_wp2_with fail
  refine Calls.mono (HC.out _ (h.alloc _)) ?_
  rintro r w5 ⟨rfl, h5, hu5⟩
  go_wp2
  go_ret
  exact ⟨rfl, h5, (Upd.alloc (Upd.refl _ _) _).trans hu5⟩
def turnTo (e : Nib.Ed) (x : Nib.Cmd) : Int := if e.mode = (if x.other = 86 then 3 else 2) then 0 else (if x.other = 86 then 3 else 2)
theorem marked_turn (b : Nat) (e : Nib.Ed) (x : Nib.Cmd) (dv uv : Value) (w : World) (h : EdAt w b e dv uv)
    (hw : x.way = 0) (hob : x.object = 0) (ho : x.other = 118 ∨ x.other = 86) :
    Calls Tryz.prog 60 #[.pointer (some ⟨b, 0, none⟩), .agg #[.bool x.more, .bool x.bad, .int .i64 x.reg, .int .i64 x.n, .bool x.given, .int .u8 x.verb, .bool x.twice, .int .u8 x.object, .bool x.around, .int .u8 x.way, .int .u8 x.other, .int .u8 x.c]] w fun r w' =>
      r = .returned (.bool true) ∧ EdAt w' b { e with mode := turnTo e x } dv uv ∧ Upd [b] w w' := by
  have H := h
  obtain ⟨_, _, _, c3, _, _, _, _, _, _, _, _, _, _, _, _, _, _, fz, lt⟩ := h
  have hwz : (x.way != 0) = false := by simp [hw]
  have hoz : (x.object != 0) = false := by simp [hob]
  have l1 : b < w.heap.size + 1 := by omega
  have g111 : (x.other == 111) = false := by rcases ho with h | h <;> simp [h]
  have HT : Hid (turnTo e x = if e.mode = (if x.other = 86 then 3 else 2) then 0 else (if x.other = 86 then 3 else 2)) := rfl
  generalize turnTo e x = m2 at *
  have HF := H.set_mode m2
  clear hw hob
  rcases ho with ho | ho
  · have g118 : (x.other == 118) = true := by simp [ho]
    have g86 : (x.other == 86) = false := by simp [ho]
    by_cases hm : e.mode = 2
    · have hm' : (e.mode == 2) = true := by simp [hm]
      have HM : Hid (m2 = 0) := by rw [Hid, HT.out]; simp [ho, hm]
      clear ho hm HT
      go_enter Tryz.func60, Tryz.ntmps60
      go_wp2
      go_ret
      refine ⟨rfl, ?_, ?_⟩
      · rw [HM.out] at HF ⊢
        repeat (with_reducible first | exact HF | refine e_o ?_ _ | refine EdAt.alloc ?_ _ | refine EdAt.drewN ?_ _ | refine EdAt.drew ?_)
      · repeat (with_reducible first | exact Upd.refl _ _ | assumption | refine u_s ?_ _ | refine Upd.alloc ?_ _ | refine Upd.drewN ?_ _ | refine Upd.drew ?_)
    · have hm' : (e.mode == 2) = false := by simp [hm]
      have HM : Hid (m2 = 2) := by rw [Hid, HT.out]; simp [ho, hm]
      clear ho hm HT
      go_enter Tryz.func60, Tryz.ntmps60
      go_wp2
      go_ret
      refine ⟨rfl, ?_, ?_⟩
      · rw [HM.out] at HF ⊢
        repeat (with_reducible first | exact HF | refine e_o ?_ _ | refine EdAt.alloc ?_ _ | refine EdAt.drewN ?_ _ | refine EdAt.drew ?_)
      · repeat (with_reducible first | exact Upd.refl _ _ | assumption | refine u_s ?_ _ | refine Upd.alloc ?_ _ | refine Upd.drewN ?_ _ | refine Upd.drew ?_)
  · have g118 : (x.other == 118) = false := by simp [ho]
    have g86 : (x.other == 86) = true := by simp [ho]
    by_cases hm : e.mode = 3
    · have hm' : (e.mode == 3) = true := by simp [hm]
      have HM : Hid (m2 = 0) := by rw [Hid, HT.out]; simp [ho, hm]
      clear ho hm HT
      go_enter Tryz.func60, Tryz.ntmps60
      go_wp2
      go_ret
      refine ⟨rfl, ?_, ?_⟩
      · rw [HM.out] at HF ⊢
        repeat (with_reducible first | exact HF | refine e_o ?_ _ | refine EdAt.alloc ?_ _ | refine EdAt.drewN ?_ _ | refine EdAt.drew ?_)
      · repeat (with_reducible first | exact Upd.refl _ _ | assumption | refine u_s ?_ _ | refine Upd.alloc ?_ _ | refine Upd.drewN ?_ _ | refine Upd.drew ?_)
    · have hm' : (e.mode == 3) = false := by simp [hm]
      have HM : Hid (m2 = 3) := by rw [Hid, HT.out]; simp [ho, hm]
      clear ho hm HT
      go_enter Tryz.func60, Tryz.ntmps60
      go_wp2
      go_ret
      refine ⟨rfl, ?_, ?_⟩
      · rw [HM.out] at HF ⊢
        repeat (with_reducible first | exact HF | refine e_o ?_ _ | refine EdAt.alloc ?_ _ | refine EdAt.drewN ?_ _ | refine EdAt.drew ?_)
      · repeat (with_reducible first | exact Upd.refl _ _ | assumption | refine u_s ?_ _ | refine Upd.alloc ?_ _ | refine Upd.drewN ?_ _ | refine Upd.drew ?_)
theorem does_marked (b : Nat) (e e2 : Nib.Ed) (x : Nib.Cmd) (keys : ByteArray) (ok : Bool) (dv uv : Value) (w : World) (h : EdAt w b e dv uv) (hm : ¬ e.mode = 0)
    (HN : ∀ ww, EdAt ww b e dv uv → Calls Tryz.prog 60 #[.pointer (some ⟨b, 0, none⟩), .agg #[.bool x.more, .bool x.bad, .int .i64 x.reg, .int .i64 x.n, .bool x.given, .int .u8 x.verb, .bool x.twice, .int .u8 x.object, .bool x.around, .int .u8 x.way, .int .u8 x.other, .int .u8 x.c]] ww fun r w' => r = .returned (.bool ok) ∧ EdAt w' b e2 dv uv ∧ Upd [b] ww w') :
    Calls Tryz.prog 44 #[.pointer (some ⟨b, 0, none⟩), .agg #[.bool x.more, .bool x.bad, .int .i64 x.reg, .int .i64 x.n, .bool x.given, .int .u8 x.verb, .bool x.twice, .int .u8 x.object, .bool x.around, .int .u8 x.way, .int .u8 x.other, .int .u8 x.c], .string keys] w fun r w' =>
      r = .returned (.int .i64 (if ok = true then 0 else 1)) ∧ EdAt w' b e2 dv uv ∧ Upd [b] w w' := by
  have H := h
  have HN' : Hid (∀ ww, EdAt ww b e dv uv → Calls Tryz.prog 60 #[.pointer (some ⟨b, 0, none⟩), .agg #[.bool x.more, .bool x.bad, .int .i64 x.reg, .int .i64 x.n, .bool x.given, .int .u8 x.verb, .bool x.twice, .int .u8 x.object, .bool x.around, .int .u8 x.way, .int .u8 x.other, .int .u8 x.c]] ww fun r w' => r = .returned (.bool ok) ∧ EdAt w' b e2 dv uv ∧ Upd [b] ww w') := HN
  clear HN
  obtain ⟨_, _, _, c3, _, _, _, _, _, _, _, _, _, _, _, _, _, _, fz, lt⟩ := h
  have hm' : (e.mode != 0) = true := by simp [hm]
  have l1 : b < w.heap.size + 1 := by omega
  clear hm
  go_enter Tryz.func44, Tryz.ntmps44
  go_wp2_with fail
  refine Calls.mono (HN'.out _ (H.alloc _)) ?_
  rintro r w1 ⟨rfl, h1, hu1⟩
  have hu : Upd [b] w w1 := (Upd.alloc (Upd.refl _ _) _).trans hu1
  cases ok with
  | false =>
    go_wp2
    go_ret
    exact ⟨rfl, h1, hu⟩
  | true =>
    go_wp2
    go_ret
    exact ⟨rfl, h1, hu⟩
end Go.Proofs.YtlendfhehhacpaaGreat
