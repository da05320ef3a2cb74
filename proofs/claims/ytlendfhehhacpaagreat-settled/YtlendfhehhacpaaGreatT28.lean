/- A part. -/
import Derived.Test.YtlendfhehhacpaaGreatT25
set_option linter.unusedVariables false
set_option linter.unusedSimpArgs false
set_option maxRecDepth 100000
set_option maxHeartbeats 8000000
namespace Go.Proofs.YtlendfhehhacpaaGreat
open Go.RowKit Nib Tryz
structure InAt (w W : World) (r d k : Nat) (p : Pg) (LB LI : Nat) : Prop where
 rd : RdAt W r d p
 g0 : W.cell? ⟨w.heap.size, 0, none⟩ = some (.pointer (some ⟨d, 0, none⟩))
 tw : Two W k LB LI
 up : Below w.heap.size w W
 lg : w.heap.size < W.heap.size
 lk : w.heap.size < k
def inBl (p : Pg) : ByteArray := p.t.extract (beg p.t p.pl) (min (ind p.t p.pl) p.pl)
theorem iIndent (r d : Nat) (p : Pg) (w : World) (h : RdAt w r d p) (hs : p.t.size ≤ 1000) (hk : p.pl ≤ p.t.size) :
  qC 307 #[.agg #[.pointer (some ⟨d, 0, none⟩)]] w (.string (inBl p)) := by
 have HL : Hid (∀ ww, RdAt ww r d p → qC 181 #[.pointer (some ⟨d, 0, none⟩)] ww (.agg #[.int .i64 (beg p.t p.pl), .int .i64 (fin p.t p.pl)])) := fun ww hh => mLine r d p ww hh hs hk
 have HI : qH 187 #[.string p.t, .agg #[.int .i64 (beg p.t p.pl), .int .i64 (fin p.t p.pl)]] (.agg #[.int .i64 (beg p.t p.pl), .int .i64 (ind p.t p.pl)]) := fun ww => tIndent_any p.t _ _ p.pl ww hs hk rfl rfl
 have h1 := beg_le p.t p.pl
 have h2 : beg p.t p.pl ≤ ind p.t p.pl := up_ge _ _ _
 have HO : qH 87 #[.string p.t, .agg #[.int .i64 (beg p.t p.pl), .int .i64 ((((min (ind p.t p.pl) p.pl) : Nat) : Int))]] (.string (inBl p)) := fun ww => tOf_any p.t _ _ _ _ ww hs rfl rfl qo qo
 have H := h
 have d0 := h.dk.c0
 have d1 := h.dk.c1
 have hld := h.dk.lt
 have hmn : min ((ind p.t p.pl : Nat) : Int) (p.pl : Int) = ((min (ind p.t p.pl) p.pl : Nat) : Int) := by omega
 generalize inBl p = X at *
 have hc : (p.pl < ind p.t p.pl ∧ min (ind p.t p.pl) p.pl = p.pl) ∨ (¬ p.pl < ind p.t p.pl ∧ min (ind p.t p.pl) p.pl = ind p.t p.pl) := by omega
 generalize hM : min (ind p.t p.pl) p.pl = M at *
 generalize beg p.t p.pl = LB at *
 generalize fin p.t p.pl = LE at *
 generalize ind p.t p.pl = LI at *
 clear h hmn h1 h2 hM
 have HL2 : Hid (∀ ww, RdAt ww r d p → qC 181 #[.pointer (some ⟨d, 0, none⟩)] ww (.agg #[.int .i64 (LB), .int .i64 (LE)])) := HL
 rcases hc with ⟨hc, hM⟩ | ⟨hc, hM⟩
 all_goals
  rw [hM] at HO
  clear hM M
  go_enter func307, ntmps307
  have g0 : (w.alloc (.cells #[.pointer (some ⟨d, 0, none⟩)] 80)).cell? ⟨w.heap.size, 0, none⟩ = some (.pointer (some ⟨d, 0, none⟩)) := by simp
  have H0 : RdAt (w.alloc (.cells #[.pointer (some ⟨d, 0, none⟩)] 80)) r d p := H.alloc _
  have d0' := H0.dk.c0
  have d1' := H0.dk.c1
  have hl0 := H0.dk.lt
  generalize hw0 : (w.alloc (.cells #[.pointer (some ⟨d, 0, none⟩)] 80)) = w0 at *
  have kz : w.heap.size < w0.heap.size := by rw [← hw0]; simp
  have HLw : Hid (∀ ww, (ww = w0.drew ∨ ww = (w0.alloc (.cells #[.int .i64 0, .int .i64 0] 128)).drew) → qC 181 #[.pointer (some ⟨d, 0, none⟩)] ww (.agg #[.int .i64 (LB), .int .i64 (LE)])) := by
   rintro ww (rfl | rfl)
   ·exact HL2.out _ H0.drew
   ·exact HL2.out _ (H0.alloc _).drew
  go_wp2_with fail
  go_region_held3 (fun ww => ww.cell? ⟨w.heap.size, 0, none⟩ = some (.pointer (some ⟨d, 0, none⟩)) ∧ ww.cell? ⟨d, 0, none⟩ = some (.string p.t)) ((refine ⟨?_, ?_⟩ <;> (first | (go_simp; done) | ((repeat (first | with_reducible assumption | (with_reducible refine memLater ((Below.refl _ _).alloc (Nat.le_refl _) _) ?_) | (with_reducible refine memLater ((Below.refl _ _).drew) ?_) | (with_reducible refine memLater h1 ?_) | (with_reducible refine memLater h2 ?_) | (with_reducible refine (memSet qo).trans ?_) | (go_simp; done))); done)))) (first | (go_at_call 181; with_reducible refine Calls.mono (HLw.out ((w0.alloc (.cells #[.int .i64 0, .int .i64 0] 128)).drew) (by first | exact Or.inl rfl | exact Or.inr rfl)) ?_; rintro r1 w1 ⟨rfl, h1⟩; have hz1 := h1.size; (try simp at hz1); (try have ⟨hl1_0, hk1_0⟩ := qL d w1.heap.size); (try have ⟨hl1_1, hk1_1⟩ := qL w.heap.size w1.heap.size); have nv0_0 : w1.cell? ⟨w0.heap.size, 0, none⟩ = some (.int .i64 0) := ((bcell h1).1 _ _ qO).trans qi; have nv0_1 : w1.cell? ⟨w0.heap.size, 1, none⟩ = some (.int .i64 0) := ((bcell h1).1 _ _ qO).trans qi; have nz0 : ∀ o, w1.frozen? ⟨w0.heap.size, o, none⟩ = false := fun o => ((bcell h1).2 _ o qO).trans qi; have nl0 : w0.heap.size < w1.heap.size := qo) | (go_at_call 181; with_reducible refine Calls.mono (HLw.out (w0.drew) (by first | exact Or.inl rfl | exact Or.inr rfl)) ?_; rintro r1 w1 ⟨rfl, h1⟩; have hz1 := h1.size; (try simp at hz1); (try have ⟨hl1_0, hk1_0⟩ := qL d w1.heap.size); (try have ⟨hl1_1, hk1_1⟩ := qL w.heap.size w1.heap.size)) | (go_at_call 187; with_reducible refine Calls.mono (HI.out (w1.alloc (.cells #[.int .i64 0, .int .i64 0] 128))) ?_; rintro r2 w2 ⟨rfl, h2⟩; have hz2 := h2.size; (try simp at hz2); (try have ⟨hl2_0, hk2_0⟩ := qL d w2.heap.size); (try have ⟨hl2_1, hk2_1⟩ := qL w.heap.size w2.heap.size); (try have nv0_0 := memLater h2 nv0_0); (try have nv0_1 := memLater h2 nv0_1); (try have nz0 : ∀ o, w2.frozen? ⟨w0.heap.size, o, none⟩ = false := fun o => ((bcell h2).2 _ o qO).trans (nz0 o)); (try have nl0 : w0.heap.size < w2.heap.size := qo); have nv1_0 : w2.cell? ⟨w1.heap.size, 0, none⟩ = some (.int .i64 0) := ((bcell h2).1 _ _ qO).trans qi; have nv1_1 : w2.cell? ⟨w1.heap.size, 1, none⟩ = some (.int .i64 0) := ((bcell h2).1 _ _ qO).trans qi; have nz1 : ∀ o, w2.frozen? ⟨w1.heap.size, o, none⟩ = false := fun o => ((bcell h2).2 _ o qO).trans qi; have nl1 : w1.heap.size < w2.heap.size := qo) | (go_at_call 187; with_reducible refine Calls.mono (HI.out w1) ?_; rintro r2 w2 ⟨rfl, h2⟩; have hz2 := h2.size; (try simp at hz2); (try have ⟨hl2_0, hk2_0⟩ := qL d w2.heap.size); (try have ⟨hl2_1, hk2_1⟩ := qL w.heap.size w2.heap.size); (try have nv0_0 := memLater h2 nv0_0); (try have nv0_1 := memLater h2 nv0_1); (try have nz0 : ∀ o, w2.frozen? ⟨w0.heap.size, o, none⟩ = false := fun o => ((bcell h2).2 _ o qO).trans (nz0 o)); (try have nl0 : w0.heap.size < w2.heap.size := qo)))
  have E : InAt w (w2.alloc (.cells #[.int .i64 LB, .int .i64 LI] 128)) r d w2.heap.size p LB LI := by
   refine ⟨RdAt.alloc ((H0.drew.below h1).below h2) _, memLater ((Below.refl _ _).alloc (Nat.le_refl _) _) (memLater h2 (memLater h1 (memLater ((Below.refl _ _).drew) g0))), Two.new _ _ _ _, ?_, by simp; omega, by omega⟩
   rw [← hw0] at h1
   exact qB
  generalize (w2.alloc (.cells #[.int .i64 LB, .int .i64 LI] 128)) = W at *
  generalize w2.heap.size = k at *
  rotate_left
  have E : InAt w ((w2.setCell ⟨w1.heap.size, 0, none⟩ (.int .i64 LB)).setCell ⟨w1.heap.size, 1, none⟩ (.int .i64 LI)) r d w1.heap.size p LB LI := by
   have t2 : Two w2 w1.heap.size 0 0 := ⟨nv1_0, nv1_1, nz1, nl1⟩
   have R2 : RdAt w2 r d p := ((H0.drew.below h1).alloc _).below h2
   refine ⟨RdAt.other (RdAt.other R2 (by simp; have := H.bg.lt; omega) qs _) (by simp; have := H.bg.lt; omega) qs _, ?_, Two.set1 (Two.set0 t2 _) _, ?_, by simp [World.setCell]; omega, by omega⟩
   ·exact (memSet qo).trans ((memSet qo).trans (memLater h2 (memLater ((Below.refl _ _).alloc (Nat.le_refl _) _) (memLater h1 (memLater ((Below.refl _ _).drew) g0)))))
   ·rw [← hw0] at h1
    exact qB
  generalize ((w2.setCell ⟨w1.heap.size, 0, none⟩ (.int .i64 LB)).setCell ⟨w1.heap.size, 1, none⟩ (.int .i64 LI)) = W at *
  generalize w1.heap.size = k at *
  rotate_left
  have E : InAt w ((w2.setCell ⟨w0.heap.size, 0, none⟩ (.int .i64 LB)).setCell ⟨w0.heap.size, 1, none⟩ (.int .i64 LI)) r d w0.heap.size p LB LI := by
   have t2 : Two w2 w0.heap.size 0 0 := ⟨nv0_0, nv0_1, nz0, nl0⟩
   have R2 : RdAt w2 r d p := ((H0.alloc _).drew.below h1).below h2
   refine ⟨RdAt.other (RdAt.other R2 (by simp; have := H.bg.lt; omega) qs _) (by simp; have := H.bg.lt; omega) qs _, ?_, Two.set1 (Two.set0 t2 _) _, ?_, by simp [World.setCell]; omega, by omega⟩
   ·exact (memSet qo).trans ((memSet qo).trans (memLater h2 (memLater h1 (memLater ((Below.refl _ _).drew) (memLater ((Below.refl _ _).alloc (Nat.le_refl _) _) g0)))))
   ·rw [← hw0] at h1
    exact qB
  generalize ((w2.setCell ⟨w0.heap.size, 0, none⟩ (.int .i64 LB)).setCell ⟨w0.heap.size, 1, none⟩ (.int .i64 LI)) = W at *
  generalize w0.heap.size = k at *
  rotate_left
  all_goals
   obtain ⟨rd, e0, tw, up, lg, lk⟩ := E
   have f0 := rd.dk.c0
   have f1 := rd.dk.c1
   have fl := rd.dk.lt
   have ⟨x0, x1, xz, xl⟩ := tw
   have ne1 : ¬ k = w.heap.size := by omega
   have ne2 : ¬ k = d := by omega
   go_wp2_with fail
   refine wp_region_held_drew (S := fun ww => ww.cell? ⟨w.heap.size, 0, none⟩ = some (.pointer (some ⟨d, 0, none⟩)) ∧ ww.cell? ⟨d, 1, none⟩ = some (.int .i64 p.pl)) qk ?_ (fun hHeld => ?_)
   ·exact ⟨memLater ((Below.refl _ _).drew) e0, memLater ((Below.refl _ _).drew) f1⟩
   refine qT 0 ?_
   simp only [Act.put, qP]
   refine qT 2 ?_
   simp only [Act.put, qP]
   refine qT 3 ?_
   simp only [Act.put, qP]
   refine qT 4 ?_
   simp only [Act.put, qP]
   refine qT 5 ?_
   simp only [Act.put, qP]
   refine qT 6 ?_
   simp only [Act.put, qP]
   have x1' : W.drew.cell? ⟨k, 1, none⟩ = some (.int .i64 LI) := memLater ((Below.refl _ _).drew) x1
   refine qR 1 fun K hK => ?_
   rw [if_pos (by rfl)]
   go_wp2_with fail
   refine hK.out _ _ ?_ (fun hHeld => ?_)
   ·exact ⟨memLater ((Below.refl _ _).drew) e0, memLater ((Below.refl _ _).drew) f1⟩
   clear hK K
   try simp only [Act.put, qP]
   refine qT 7 ?_
   simp only [Act.put, qP]
   refine qT 8 ?_
   simp only [Act.put, qP]
   refine qR 9 fun K hK => ?_
   rw [if_pos (by rfl)]
   go_wp2_with fail
   refine hK.out _ _ ?_ (fun hHeld => ?_)
   ·exact ⟨by go_simp, by go_simp⟩
   clear hK K
   try simp only [Act.put, qP]
   refine wpAnyH_done qk ?_ _
   first
   | (
     have R3 : RdAt (W.setCell ⟨k, 1, none⟩ (.int .i64 p.pl)).drew r d p := (RdAt.other rd (by simp; have := H.bg.lt; omega) qs _).drew
     have y0 : (W.setCell ⟨k, 1, none⟩ (.int .i64 p.pl)).drew.cell? ⟨k, 0, none⟩ = some (.int .i64 LB) := (by go_simp)
     have y1 : (W.setCell ⟨k, 1, none⟩ (.int .i64 p.pl)).drew.cell? ⟨k, 1, none⟩ = some (.int .i64 p.pl) := (by go_simp)
     have y2 : (W.setCell ⟨k, 1, none⟩ (.int .i64 p.pl)).drew.cell? ⟨w.heap.size, 0, none⟩ = some (.pointer (some ⟨d, 0, none⟩)) := (by go_simp)
     have y3 : (W.setCell ⟨k, 1, none⟩ (.int .i64 p.pl)).drew.cell? ⟨d, 0, none⟩ = some (.string p.t) := R3.dk.c0
     have B3 : Below w.heap.size w (W.setCell ⟨k, 1, none⟩ (.int .i64 p.pl)).drew := (Below.setCell up qs _).drew
     have z1 : w.heap.size < (W.setCell ⟨k, 1, none⟩ (.int .i64 p.pl)).drew.heap.size := (by simp [World.setCell]; omega)
     have z2 : d < (W.setCell ⟨k, 1, none⟩ (.int .i64 p.pl)).drew.heap.size := R3.dk.lt
     have z3 : k < (W.setCell ⟨k, 1, none⟩ (.int .i64 p.pl)).drew.heap.size := (by simp [World.setCell]; omega)
     generalize (W.setCell ⟨k, 1, none⟩ (.int .i64 p.pl)).drew = W3 at *
     go_wp2_with fail
     go_region_held3 (fun ww => ww.cell? ⟨w.heap.size, 0, none⟩ = some (.pointer (some ⟨d, 0, none⟩)) ∧ ww.cell? ⟨d, 0, none⟩ = some (.string p.t) ∧ ww.cell? ⟨k, 0, none⟩ = some (.int .i64 LB) ∧ ww.cell? ⟨k, 1, none⟩ = some (.int .i64 p.pl)) ((refine ⟨?_, ?_, ?_, ?_⟩ <;> (first | (go_simp; done) | ((repeat (first | with_reducible assumption | (with_reducible refine memLater ((Below.refl _ _).alloc (Nat.le_refl _) _) ?_) | (with_reducible refine memLater ((Below.refl _ _).drew) ?_) | (with_reducible refine memLater h4 ?_) | (with_reducible refine (memSet qo).trans ?_) | (go_simp; done))); done)))) ((go_at_call 87; refine Calls.mono (HO.out _) ?_; rintro r4 w4 ⟨rfl, h4⟩; have hz4 := h4.size; (try simp at hz4); (try have ⟨hl4_0, hk4_0⟩ := qL d w4.heap.size); (try have ⟨hl4_1, hk4_1⟩ := qL k w4.heap.size); (try have ⟨hl4_2, hk4_2⟩ := qL w.heap.size w4.heap.size)))
     go_wp2
     go_ret
     refine ⟨rfl, ?_⟩
     exact qB
     )
   | (
     have R3 : RdAt (W.setCell ⟨k, 1, none⟩ (.int .i64 LI)).drew r d p := (RdAt.other rd (by simp; have := H.bg.lt; omega) qs _).drew
     have y0 : (W.setCell ⟨k, 1, none⟩ (.int .i64 LI)).drew.cell? ⟨k, 0, none⟩ = some (.int .i64 LB) := (by go_simp)
     have y1 : (W.setCell ⟨k, 1, none⟩ (.int .i64 LI)).drew.cell? ⟨k, 1, none⟩ = some (.int .i64 LI) := (by go_simp)
     have y2 : (W.setCell ⟨k, 1, none⟩ (.int .i64 LI)).drew.cell? ⟨w.heap.size, 0, none⟩ = some (.pointer (some ⟨d, 0, none⟩)) := (by go_simp)
     have y3 : (W.setCell ⟨k, 1, none⟩ (.int .i64 LI)).drew.cell? ⟨d, 0, none⟩ = some (.string p.t) := R3.dk.c0
     have B3 : Below w.heap.size w (W.setCell ⟨k, 1, none⟩ (.int .i64 LI)).drew := (Below.setCell up qs _).drew
     have z1 : w.heap.size < (W.setCell ⟨k, 1, none⟩ (.int .i64 LI)).drew.heap.size := (by simp [World.setCell]; omega)
     have z2 : d < (W.setCell ⟨k, 1, none⟩ (.int .i64 LI)).drew.heap.size := R3.dk.lt
     have z3 : k < (W.setCell ⟨k, 1, none⟩ (.int .i64 LI)).drew.heap.size := (by simp [World.setCell]; omega)
     generalize (W.setCell ⟨k, 1, none⟩ (.int .i64 LI)).drew = W3 at *
     go_wp2_with fail
     go_region_held3 (fun ww => ww.cell? ⟨w.heap.size, 0, none⟩ = some (.pointer (some ⟨d, 0, none⟩)) ∧ ww.cell? ⟨d, 0, none⟩ = some (.string p.t) ∧ ww.cell? ⟨k, 0, none⟩ = some (.int .i64 LB) ∧ ww.cell? ⟨k, 1, none⟩ = some (.int .i64 LI)) ((refine ⟨?_, ?_, ?_, ?_⟩ <;> (first | (go_simp; done) | ((repeat (first | with_reducible assumption | (with_reducible refine memLater ((Below.refl _ _).alloc (Nat.le_refl _) _) ?_) | (with_reducible refine memLater ((Below.refl _ _).drew) ?_) | (with_reducible refine memLater h4 ?_) | (with_reducible refine (memSet qo).trans ?_) | (go_simp; done))); done)))) ((go_at_call 87; refine Calls.mono (HO.out _) ?_; rintro r4 w4 ⟨rfl, h4⟩; have hz4 := h4.size; (try simp at hz4); (try have ⟨hl4_0, hk4_0⟩ := qL d w4.heap.size); (try have ⟨hl4_1, hk4_1⟩ := qL k w4.heap.size); (try have ⟨hl4_2, hk4_2⟩ := qL w.heap.size w4.heap.size)))
     go_wp2
     go_ret
     refine ⟨rfl, ?_⟩
     exact qB
     )
