/- Joined of the texts ModesS, ModesAA, ModesAB. -/
import Derived.Test.YtlendfhehhacpaaGreatP06
import Derived.Test.YtlendfhehhacpaaGreatP10
import Derived.Test.YtlendfhehhacpaaGreatP40
import Derived.Test.YtlendfhehhacpaaGreatP42
import Derived.Test.YtlendfhehhacpaaGreatP37
set_option linter.unusedVariables false
set_option linter.unusedSimpArgs false
set_option maxRecDepth 100000
set_option maxHeartbeats 8000000
namespace Go.Proofs.YtlendfhehhacpaaGreat
open Go.RowKit
theorem mBecome (r d : Nat) (p : Pg) (x : ByteArray) (w : World) (h : RdAt w r d p) (hx : x.size ≤ 1000) :
    Calls Tryz.prog 175 #[.pointer (some ⟨d, 0, none⟩), .string x] w fun e w' => e = .returned (.bool true) ∧ RdAt w' r d { p with t := x } ∧ Upd [d] w w' := by
  have H := h
  have HS := h.set_t x
  have c0 := h.dk.c0
  have fz := h.dk.fz
  have lt := h.dk.lt
  have hy : ((1000 : Int) < x.size) = False := by simp; omega
  generalize ({ p with t := x } : Pg) = p2 at *
  clear h hx
  go_enter Tryz.func175, Tryz.ntmps175
  go_wp2
  go_ret
  exact ⟨rfl, HS, Upd.setCell (Upd.refl _ _) (Or.inl (by simp)) _⟩
theorem mGoTo (r d : Nat) (p : Pg) (t : ByteArray) (w : World) (h : RdAt w r d p) (hs : p.t.size ≤ 1000) (ht : t.size ≤ 1000) (hne : ¬ t = p.t) :
    Calls Tryz.prog 159 #[.agg #[.pointer (some ⟨r, 0, none⟩)], .string t, .bool true] w fun e w' => e = .returned (.int .i64 1) ∧ RdAt w' r d { p with t := t, pl := Nib.clm t (ahd t p.t) } ∧ Upd [d] w w' := by
  have hne' : (t.toList == p.t.toList) = false := by
    rw [beq_eq_false_iff_ne]
    intro hx
    apply hne
    rw [ByteArray.toList_eq, ByteArray.toList_eq] at hx
    exact ByteArray.ext (Array.ext' hx)
  have hne2 : (t.toList != p.t.toList) = true := by rw [bne, hne']; rfl
  have ha := ahd_le t p.t
  have HA : Hid (∃ Y U V : Int, ∀ ww, Calls Tryz.prog 85 #[.string t, .string p.t] ww fun e w' => e = .returned (.tuple #[.agg #[.int .i64 (ahd t p.t), .int .i64 (Y)], .agg #[.int .i64 (U), .int .i64 (V)]]) ∧ Below ww.heap.size ww w') := ⟨_, _, _, fun ww => tApart_any t p.t ww ht hs⟩
  obtain ⟨Y, U, V, HA⟩ := HA.out
  have HA : Hid (∀ ww, Calls Tryz.prog 85 #[.string t, .string p.t] ww fun e w' => e = .returned (.tuple #[.agg #[.int .i64 (ahd t p.t), .int .i64 (Y)], .agg #[.int .i64 (U), .int .i64 (V)]]) ∧ Below ww.heap.size ww w') := HA
  have HS : Hid (∀ ww, RdAt ww r d p → RdAt (ww.setCell ⟨d, 0, none⟩ (.string t)) r d { p with t := t }) := fun ww hh => hh.set_t t
  have HM : Hid (∀ ww, RdAt ww r d { p with t := t } → Calls Tryz.prog 179 #[.pointer (some ⟨d, 0, none⟩), .int .i64 (ahd t p.t : Nat)] ww fun e w' => e = .returned (.tuple #[]) ∧ RdAt w' r d { p with t := t, pl := Nib.clm t (ahd t p.t) } ∧ Upd [d] ww w') := fun ww hh => mMoveTo r d { p with t := t } _ (ahd t p.t) ww hh ht rfl (by simp only; omega)
  generalize hp3 : ({ p with t := t, pl := Nib.clm t (ahd t p.t) } : Pg) = p3 at *
  generalize hp2 : ({ p with t := t } : Pg) = p2 at *
  clear hp2 hp3
  generalize ahd t p.t = A at *
  have H := h
  have r0 := h.bg.c0
  have d0 := h.dk.c0
  have fz := h.dk.fz
  have hlr := h.bg.lt
  have hld := h.dk.lt
  have hrd := h.ne
  have l1 : r < w.heap.size + 1 := by omega
  have l2 : d < w.heap.size + 1 := by omega
  have l3 : ¬ w.heap.size = d := by omega
  have l4 : ¬ w.heap.size = r := by omega
  clear h
  go_enter Tryz.func159, Tryz.ntmps159
  go_wp2_with fail
  refine Calls.mono (HA.out _) ?_
  rintro e w1 ⟨rfl, h1⟩
  have H1 : RdAt w1 r d p2 := ((HS.out w H).alloc _).below h1
  have r1 := H1.bg.c0
  have hz1 := h1.size
  simp at hz1
  have hsz : (w.setCell ⟨d, 0, none⟩ (.string t)).heap.size = w.heap.size := by simp [World.setCell]
  have b0 : w1.cell? ⟨w.heap.size, 0, none⟩ = some (.pointer (some ⟨r, 0, none⟩)) := memLater h1 (by first | (go_simp; done) | (rw [← hsz]; simp; done))
  have l5 : r < w1.heap.size := H1.bg.lt
  have l6 : d < w1.heap.size := H1.dk.lt
  have g2 : ((w1.alloc (.cells #[.int .i64 (A : Nat), .int .i64 Y] 128)).alloc (.cells #[.int .i64 U, .int .i64 V] 128)).cell? ⟨w1.heap.size, 0, none⟩ = some (.int .i64 (A : Nat)) := by simp
  go_wp2_with fail
  go_region_held3 (fun ww => ww.cell? ⟨w.heap.size, 0, none⟩ = some (.pointer (some ⟨r, 0, none⟩)) ∧ ww.cell? ⟨r, 0, none⟩ = some (.pointer (some ⟨d, 0, none⟩)) ∧ ww.cell? ⟨w1.heap.size, 0, none⟩ = some (.int .i64 (A : Nat))) ((refine ⟨?_, ?_, ?_⟩ <;> (first | (go_simp; done) | ((repeat (first | with_reducible assumption | (with_reducible refine memLater ((Below.refl _ _).alloc (Nat.le_refl _) _) ?_) | (with_reducible refine memLater ((Below.refl _ _).drew) ?_) | (with_reducible refine (memSet (by omega)).trans ?_) | (go_simp; done))); done)))) ((go_at_call 179; refine Calls.mono (HM.out _ (by (repeat (with_reducible first | exact H1 | refine RdAt.alloc ?_ _ | refine RdAt.drewN ?_ _ | refine RdAt.drew ?_ | refine r_o ?_ _)))) ?_; rintro r3 w3 ⟨rfl, h3, u3⟩; have hz3 := u3.size; (try simp at hz3); have a0 := h3.bg.c0; have a1 := u3.was (b := w.heap.size) (o := 0) (v := .pointer (some ⟨r, 0, none⟩)) (by (repeat (first | with_reducible assumption | (with_reducible refine memLater ((Below.refl _ _).alloc (Nat.le_refl _) _) ?_) | (with_reducible refine memLater ((Below.refl _ _).drew) ?_)))) (by simp; omega); have a2 := u3.was (b := w1.heap.size) (o := 0) (v := .int .i64 (A : Nat)) (by (repeat (first | with_reducible assumption | (with_reducible refine memLater ((Below.refl _ _).alloc (Nat.le_refl _) _) ?_) | (with_reducible refine memLater ((Below.refl _ _).drew) ?_)))) (by simp; omega)))
  go_wp2
  go_ret
  refine ⟨rfl, ?_, ?_⟩
  · repeat (with_reducible first | exact h3 | refine r_o ?_ _ | refine RdAt.alloc ?_ _ | refine RdAt.drewN ?_ _ | refine RdAt.drew ?_)
  · refine Upd.trans ?_ u3
    refine Upd.drew (Upd.alloc (Upd.alloc (Upd.below (Upd.alloc (Upd.setCell (Upd.refl _ _) (Or.inl (by simp)) _) _) h1) _) _)
theorem mGoTo_same (r d : Nat) (p : Pg) (w : World) (h : RdAt w r d p) :
    Calls Tryz.prog 159 #[.agg #[.pointer (some ⟨r, 0, none⟩)], .string p.t, .bool true] w fun e w' => e = .returned (.int .i64 1) ∧ RdAt w' r d p ∧ Upd [d] w w' := by
  have HS : Hid (∀ ww, RdAt ww r d p → RdAt (ww.setCell ⟨d, 0, none⟩ (.string p.t)) r d p) := fun ww hh => hh.set_t p.t
  have H := h
  have r0 := h.bg.c0
  have d0 := h.dk.c0
  have fz := h.dk.fz
  have hlr := h.bg.lt
  have hld := h.dk.lt
  have l1 : r < w.heap.size + 1 := by omega
  have l2 : d < w.heap.size + 1 := by omega
  have l3 : ¬ w.heap.size = d := by omega
  have l4 : ¬ w.heap.size = r := by omega
  clear h
  go_enter Tryz.func159, Tryz.ntmps159
  go_wp2
  go_ret
  refine ⟨rfl, ?_, ?_⟩
  · exact (HS.out w H).alloc _
  · exact Upd.alloc (Upd.setCell (Upd.refl _ _) (Or.inl (by simp)) _) _
def goT (p : Pg) (t : ByteArray) : Pg := if t = p.t then p else { p with t := t, pl := Nib.clm t (ahd t p.t) }
theorem mGoTo_any (r d : Nat) (p : Pg) (t : ByteArray) (w : World) (h : RdAt w r d p) (hs : p.t.size ≤ 1000) (ht : t.size ≤ 1000) :
    Calls Tryz.prog 159 #[.agg #[.pointer (some ⟨r, 0, none⟩)], .string t, .bool true] w fun e w' => e = .returned (.int .i64 1) ∧ RdAt w' r d (goT p t) ∧ Upd [d] w w' := by
  unfold goT
  by_cases e : t = p.t
  · rw [if_pos e, e]; exact mGoTo_same r d p w h
  · rw [if_neg e]; exact mGoTo r d p t w h hs ht e
theorem HsAt.base {w v W : World} {r d g cap : Nat} {p : Pg} {x : Hst} {ov : Value} (h : HsAt v W r d g cap p x ov) (hu : Upd [] w v) : HsAt w W r d g cap p x ov :=
  ⟨h.rd, h.ob, h.of, h.gd, h.gr, h.od, h.or, h.og, h.gl, h.fr.imp id (fun f k hk => Nat.le_trans hu.size (f k hk)), (hu.mono (by simp)).trans h.up⟩
theorem HsAt.start {w v : World} {r d g cap : Nat} {p : Pg} {x : Hst} (h : HsAt w w r d g cap p x p.forth) (hb : Below w.heap.size w v) : HsAt v v r d g cap p x p.forth :=
  ⟨h.rd.below hb, ownsRow_upd h.ob (Upd.of_below (S := []) hb) (by simp), ownsRow_upd h.of (Upd.of_below (S := []) hb) (by simp), h.gd, h.gr, h.od, h.or, h.og, Nat.lt_of_lt_of_le h.gl hb.size, Or.inl rfl, Upd.refl _ _⟩
theorem hUndo (r d g cap : Nat) (p : Pg) (c : Nat) (x : Hst) (w : World) (h : HsAt w w r d g cap p x p.forth) (hx0 : 0 < x.2.1.length) (hc : 1 ≤ c) (hx1 : x.1.size ≤ 1000) (hok : OkS x.1 x.2.1) (hm : x.2.1.length + x.2.2.length ≤ 100000) :
    Calls Tryz.prog 160 #[.pointer (some ⟨d, 5, none⟩), .int .i64 (c : Nat)] w fun e w' => e = .returned (.tuple #[.string (wlkN (min c x.2.1.length) x).1, .bool true]) ∧ ∃ ov, HsAt w w' r d g cap p (wlkN (min c x.2.1.length) x) ov := by
  have HW := hWalk r d g cap p c x w.drew (h.start (Below.refl _ _).drew) hx0 hc hx1 hok hm
  generalize wlkN (min c x.2.1.length) x = y at *
  go_enter Tryz.func160, Tryz.ntmps160
  go_wp2_with fail
  go_region_held3 (fun ww => ∃ z, Hid (ww.os = z)) ((exact ⟨_, rfl⟩)) ((go_at_call 199; refine Calls.mono HW ?_; rintro e w1 ⟨rfl, ov, h1⟩))
  go_wp2
  go_ret2
  exact ⟨rfl, ov, h1.base (Upd.drew (Upd.refl _ _))⟩
theorem HsAt.desk {w W W' : World} {r d g cap : Nat} {p p' : Pg} {x : Hst} {ov : Value} (h : HsAt w W r d g cap p x ov) (hu : Upd [d] W W') (hf : p'.forth = p.forth)
    (hr : RdAt W' r d { p' with now := x.1, back := .slice (some ⟨g, 0, none⟩) x.2.1.length cap, forth := ov }) : HsAt w W' r d g cap p' x ov :=
  ⟨hr, ownsRow_upd h.ob hu (by intro k hk; simp at hk; subst hk; simp [Value.ownBlock, h.gd]), ownsRow_upd h.of hu (by intro k hk; simp at hk; subst hk; exact h.od), h.gd, h.gr, h.od, h.or, h.og, Nat.lt_of_lt_of_le h.gl hu.size, by rw [hf]; exact h.fr, by rw [hf]; exact h.up.trans (hu.mono (by simp))⟩
theorem mCommand_u (r d g cap : Nat) (p : Pg) (x : Hst) (w : World) (h : HsAt w w r d g cap p x p.forth) (hx0 : 0 < x.2.1.length) (hx1 : x.1.size ≤ 1000) (hok : OkS x.1 x.2.1) (hm : x.2.1.length + x.2.2.length ≤ 100000) (hs : p.t.size ≤ 1000) (hn : p.n ≤ 99) (hb : p.behind ≤ 99) :
    Calls Tryz.prog 141 #[.agg #[.pointer (some ⟨r, 0, none⟩)], .int .u8 117] w fun e w' => e = .returned (.int .i64 1) ∧ ∃ ov, HsAt w w' r d g cap (goT p (wlkN (min (max (cnt p) 1) x.2.1.length) x).1) (wlkN (min (max (cnt p) 1) x.2.1.length) x) ov := by
  have HT : Hid (∀ ww, RdAt ww r d { p with now := x.1, back := .slice (some ⟨g, 0, none⟩) x.2.1.length cap, forth := p.forth } → Calls Tryz.prog 161 #[.pointer (some ⟨r, 1, none⟩)] ww fun e w' => e = .returned (.int .i64 (max (cnt p) 1 : Nat)) ∧ Below ww.heap.size ww w') := fun ww hh => mTimes r d { p with now := x.1, back := .slice (some ⟨g, 0, none⟩) x.2.1.length cap, forth := p.forth } ww hh hn hb
  generalize hN : max (cnt p) 1 = N at *
  have hN1 : 1 ≤ N := by omega
  have H := h.rd
  have r0 := H.bg.c0
  have hlr := H.bg.lt
  have hld := H.dk.lt
  have l1 : r < w.heap.size + 1 := by omega
  have l2 : d < w.heap.size + 1 := by omega
  have hfl : ∀ k, p.forth.ownBlock = some k → k < w.heap.size := fun k hk => (h.of.lt k hk).2
  have HU : Hid (∀ v, Below w.heap.size w v → Calls Tryz.prog 160 #[.pointer (some ⟨d, 5, none⟩), .int .i64 (N : Nat)] v fun e w' => e = .returned (.tuple #[.string (wlkN (min N x.2.1.length) x).1, .bool true]) ∧ ∃ ov, HsAt v w' r d g cap p (wlkN (min N x.2.1.length) x) ov) := fun v hv => hUndo r d g cap p N x v (h.start hv) hx0 hN1 hx1 hok hm
  have hy1 := (wlkN_ok x hx1 hok (min N x.2.1.length) (by omega)).1
  generalize wlkN (min N x.2.1.length) x = y at *
  have hgt : ∀ ov, goT { p with now := y.1, back := .slice (some ⟨g, 0, none⟩) y.2.1.length cap, forth := ov } y.1 = { goT p y.1 with now := y.1, back := .slice (some ⟨g, 0, none⟩) y.2.1.length cap, forth := ov } := by
    intro ov
    unfold goT
    split <;> rfl
  have HG : Hid (∀ ov ww, RdAt ww r d { p with now := y.1, back := .slice (some ⟨g, 0, none⟩) y.2.1.length cap, forth := ov } → Calls Tryz.prog 159 #[.agg #[.pointer (some ⟨r, 0, none⟩)], .string y.1, .bool true] ww fun e w' => e = .returned (.int .i64 1) ∧ RdAt w' r d { goT p y.1 with now := y.1, back := .slice (some ⟨g, 0, none⟩) y.2.1.length cap, forth := ov } ∧ Upd [d] ww w') := by
    intro ov ww hh
    have := mGoTo_any r d _ y.1 ww hh hs hy1
    rw [hgt ov] at this
    exact this
  have hfp : (goT p y.1).forth = p.forth := by unfold goT; split <;> rfl
  generalize goT p y.1 = P3 at *
  clear hgt
  go_enter Tryz.func141, Tryz.ntmps141
  have g0 : (w.alloc (.cells #[.pointer (some ⟨r, 0, none⟩)] 77)).cell? ⟨w.heap.size, 0, none⟩ = some (.pointer (some ⟨r, 0, none⟩)) := by simp
  go_wp2_with fail
  go_region_held3 (fun ww => ww.cell? ⟨w.heap.size, 0, none⟩ = some (.pointer (some ⟨r, 0, none⟩)) ∧ ww.cell? ⟨r, 0, none⟩ = some (.pointer (some ⟨d, 0, none⟩))) ((refine ⟨?_, ?_⟩ <;> (first | (go_simp; done) | (repeat (first | with_reducible assumption | (with_reducible refine memLater ((Below.refl _ _).alloc (Nat.le_refl _) _) ?_) | (with_reducible refine memLater ((Below.refl _ _).drew) ?_) | (with_reducible refine memLater h1 ?_)))))) (first | (go_at_call 161; refine Calls.mono (HT.out _ (by (repeat (with_reducible first | exact H | refine RdAt.alloc ?_ _ | refine RdAt.drewN ?_ _ | refine RdAt.drew ?_ | refine r_o ?_ _)))) ?_; rintro e1 w1 ⟨rfl, h1⟩; have hz1 := h1.size; (try simp at hz1)) | (go_at_call 160; refine Calls.mono (HU.out w1 (by (repeat (with_reducible first | exact Below.refl _ _ | refine b_a ?_ _ | refine Below.drew ?_ | refine b_t ?_ h1)))) ?_; rintro e2 w2 ⟨rfl, ov, h2⟩; have s0 := h2.rd.bg.c0; have s1 := h2.up.was (b := w.heap.size) (o := 0) (v := .pointer (some ⟨r, 0, none⟩)) (by (repeat (first | with_reducible assumption | (with_reducible refine memLater ((Below.refl _ _).alloc (Nat.le_refl _) _) ?_) | (with_reducible refine memLater ((Below.refl _ _).drew) ?_) | (with_reducible refine memLater h1 ?_)))) (by intro hk; rcases List.mem_cons.1 hk with hk | hk; (omega); (have := hfl _ (mem_ownC.1 hk); omega))) | (go_at_call 159; refine Calls.mono (HG.out ov w2 h2.rd) ?_; rintro e3 w3 ⟨rfl, h3, u3⟩; have q0 := h3.bg.c0; have q1 := u3.was (b := w.heap.size) (o := 0) (v := .pointer (some ⟨r, 0, none⟩)) (by assumption) (by simp; omega)))
  go_wp2
  go_ret
  refine ⟨rfl, ov, ?_⟩
  refine HsAt.base (v := w1) (HsAt.desk h2 u3 hfp h3) (Upd.of_below ?_)
  repeat (with_reducible first | exact Below.refl _ _ | refine b_s ?_ _ | refine b_a ?_ _ | refine Below.drew ?_ | refine below_drewN ?_ _ | refine b_t ?_ h1)
end Go.Proofs.YtlendfhehhacpaaGreat
