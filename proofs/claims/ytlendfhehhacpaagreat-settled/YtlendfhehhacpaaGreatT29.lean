/- A part. -/
import Derived.Test.YtlendfhehhacpaaGreatT19
import Derived.Test.YtlendfhehhacpaaGreatT18
set_option linter.unusedVariables false
set_option linter.unusedSimpArgs false
set_option maxRecDepth 100000
set_option maxHeartbeats 8000000
namespace Go.Proofs.YtlendfhehhacpaaGreat
open Go.RowKit Nib Tryz
theorem mGoTo (r d : Nat) (p : Pg) (t : ByteArray) (w : World) (h : RdAt w r d p) (hs : p.t.size ≤ 1000) (ht : t.size ≤ 1000) (hne : ¬ t = p.t) :
  Calls Tryz.prog 159 #[.agg #[.pointer (some ⟨r, 0, none⟩)], .string t, .bool true] w fun e w' => e = .returned (.int .i64 1) ∧ RdAt w' r d { p with t := t, pl := clm t (ahd t p.t) } ∧ Upd [d] w w' := by
 have hne' : (t.toList == p.t.toList) = false := by
  rw [beq_eq_false_iff_ne]
  intro hx
  apply hne
  rw [ByteArray.toList_eq, ByteArray.toList_eq] at hx
  exact ByteArray.ext (Array.ext' hx)
 have hne2 : (t.toList != p.t.toList) = true := by rw [bne, hne']; rfl
 have ha := ahd_le t p.t
 have HA : Hid (∃ Y U V : Int, ∀ ww, qC 85 #[.string t, .string p.t] ww (.tuple #[.agg #[.int .i64 (ahd t p.t), .int .i64 (Y)], .agg #[.int .i64 (U), .int .i64 (V)]])) := ⟨_, _, _, fun ww => tApart_any t p.t ww ht hs⟩
 obtain ⟨Y, U, V, HA⟩ := HA.out
 have HA : qH 85 #[.string t, .string p.t] (.tuple #[.agg #[.int .i64 (ahd t p.t), .int .i64 (Y)], .agg #[.int .i64 (U), .int .i64 (V)]]) := HA
 have HS : Hid (∀ ww, RdAt ww r d p → RdAt (ww.setCell ⟨d, 0, none⟩ (.string t)) r d { p with t := t }) := fun ww hh => hh.set_t t
 have HM : Hid (∀ ww, RdAt ww r d { p with t := t } → Calls Tryz.prog 179 #[.pointer (some ⟨d, 0, none⟩), .int .i64 (ahd t p.t : Nat)] ww fun e w' => e = .returned (.tuple #[]) ∧ RdAt w' r d { p with t := t, pl := clm t (ahd t p.t) } ∧ Upd [d] ww w') := fun ww hh => mMoveTo r d { p with t := t } _ (ahd t p.t) ww hh ht rfl (by simp only; omega)
 generalize hp3 : ({ p with t := t, pl := clm t (ahd t p.t) } : Pg) = p3 at *
 generalize hp2 : ({ p with t := t } : Pg) = p2 at *
 clear hp2 hp3
 generalize ahd t p.t = A at *
 have H := h
 have r0 := h.bg.c0
 have d0 := h.dk.c0
 have fz := h.dk.fz
 have hlr := h.bg.lt
 have hld := h.dk.lt
 have hrd := h.ne
 have l1 : r < w.heap.size + 1 := by omega
 have l2 : d < w.heap.size + 1 := by omega
 have l3 : ¬ w.heap.size = d := by omega
 have l4 : ¬ w.heap.size = r := by omega
 clear h
 go_enter func159, ntmps159
 go_wp2_with fail
 refine Calls.mono (HA.out _) ?_
 rintro e w1 ⟨rfl, h1⟩
 have H1 : RdAt w1 r d p2 := ((HS.out w H).alloc _).below h1
 have r1 := H1.bg.c0
 have hz1 := h1.size
 simp at hz1
 have hsz : (w.setCell ⟨d, 0, none⟩ (.string t)).heap.size = w.heap.size := by simp [World.setCell]
 have b0 : w1.cell? ⟨w.heap.size, 0, none⟩ = some (.pointer (some ⟨r, 0, none⟩)) := memLater h1 (by first | (go_simp; done) | (rw [← hsz]; simp; done))
 have l5 : r < w1.heap.size := H1.bg.lt
 have l6 : d < w1.heap.size := H1.dk.lt
 have g2 : ((w1.alloc (.cells #[.int .i64 (A : Nat), .int .i64 Y] 128)).alloc (.cells #[.int .i64 U, .int .i64 V] 128)).cell? ⟨w1.heap.size, 0, none⟩ = some (.int .i64 (A : Nat)) := by simp
 go_wp2_with fail
 go_region_held3 (fun ww => ww.cell? ⟨w.heap.size, 0, none⟩ = some (.pointer (some ⟨r, 0, none⟩)) ∧ ww.cell? ⟨r, 0, none⟩ = some (.pointer (some ⟨d, 0, none⟩)) ∧ ww.cell? ⟨w1.heap.size, 0, none⟩ = some (.int .i64 (A : Nat))) (exact qK) ((go_at_call 179; refine Calls.mono (HM.out _ qRd) ?_; rintro r3 w3 ⟨rfl, h3, u3⟩; have hz3 := u3.size; (try simp at hz3); have a0 := h3.bg.c0; have a1 := u3.was (b := w.heap.size) (o := 0) (v := .pointer (some ⟨r, 0, none⟩)) qM qs; have a2 := u3.was (b := w1.heap.size) (o := 0) (v := .int .i64 (A : Nat)) qM qs))
 go_wp2
 go_ret
 refine ⟨rfl, ?_, ?_⟩
 ·repeat exact qRd
 ·refine Upd.trans ?_ u3
  refine Upd.drew (Upd.alloc (Upd.alloc (Upd.below (Upd.alloc (Upd.setCell (Upd.refl _ _) (Or.inl qi) _) _) h1) _) _)
theorem mGoTo_same (r d : Nat) (p : Pg) (w : World) (h : RdAt w r d p) :
  Calls Tryz.prog 159 #[.agg #[.pointer (some ⟨r, 0, none⟩)], .string p.t, .bool true] w fun e w' => e = .returned (.int .i64 1) ∧ RdAt w' r d p ∧ Upd [d] w w' := by
 have HS : Hid (∀ ww, RdAt ww r d p → RdAt (ww.setCell ⟨d, 0, none⟩ (.string p.t)) r d p) := fun ww hh => hh.set_t p.t
 have H := h
 have r0 := h.bg.c0
 have d0 := h.dk.c0
 have fz := h.dk.fz
 have hlr := h.bg.lt
 have hld := h.dk.lt
 have l1 : r < w.heap.size + 1 := by omega
 have l2 : d < w.heap.size + 1 := by omega
 have l3 : ¬ w.heap.size = d := by omega
 have l4 : ¬ w.heap.size = r := by omega
 clear h
 go_enter func159, ntmps159
 go_wp2
 go_ret
 refine ⟨rfl, ?_, ?_⟩
 ·exact (HS.out w H).alloc _
 ·exact Upd.alloc (Upd.setCell (Upd.refl _ _) (Or.inl qi) _) _
def goT (p : Pg) (t : ByteArray) : Pg := if t = p.t then p else { p with t := t, pl := clm t (ahd t p.t) }
theorem mGoTo_any (r d : Nat) (p : Pg) (t : ByteArray) (w : World) (h : RdAt w r d p) (hs : p.t.size ≤ 1000) (ht : t.size ≤ 1000) :
  Calls Tryz.prog 159 #[.agg #[.pointer (some ⟨r, 0, none⟩)], .string t, .bool true] w fun e w' => e = .returned (.int .i64 1) ∧ RdAt w' r d (goT p t) ∧ Upd [d] w w' := by
 unfold goT
 by_cases e : t = p.t
 ·rw [if_pos e, e]; exact mGoTo_same r d p w h
 ·rw [if_neg e]; exact mGoTo r d p t w h hs ht e
