/- A part. -/
import Derived.Test.YtlendfhehhacpaaGreatQ24
import Derived.Test.YtlendfhehhacpaaGreatQ22
import Derived.Laws.BytesString
set_option linter.unusedVariables false
set_option linter.unusedSimpArgs false
set_option maxRecDepth 100000
set_option maxHeartbeats 8000000
namespace Go.Proofs.YtlendfhehhacpaaGreat
open Go.RowKit Nib Tryz
structure InAt (w W : World) (r d k : Nat) (p : Pg) (LB LI : Nat) : Prop where
 rd : RdAt W r d p
 g0 : W.cell? ⟨w.heap.size, 0, none⟩ = some (.pointer (some ⟨d, 0, none⟩))
 tw : Two W k LB LI
 up : Below w.heap.size w W
 lg : w.heap.size < W.heap.size
 lk : w.heap.size < k
def inBl (p : Pg) : ByteArray := p.t.extract (beg p.t p.pl) (min (ind p.t p.pl) p.pl)
theorem iIndent (r d : Nat) (p : Pg) (w : World) (h : RdAt w r d p) (hs : p.t.size ≤ 1000) (hk : p.pl ≤ p.t.size) :
  qC 307 #[.agg #[.pointer (some ⟨d, 0, none⟩)]] w (.string (inBl p)) := by
 have HL : Hid (∀ ww, RdAt ww r d p → qC 181 #[.pointer (some ⟨d, 0, none⟩)] ww (.agg #[.int .i64 (beg p.t p.pl), .int .i64 (fin p.t p.pl)])) := fun ww hh => mLine r d p ww hh hs hk
 have HI : qH 187 #[.string p.t, .agg #[.int .i64 (beg p.t p.pl), .int .i64 (fin p.t p.pl)]] (.agg #[.int .i64 (beg p.t p.pl), .int .i64 (ind p.t p.pl)]) := fun ww => tIndent_any p.t _ _ p.pl ww hs hk rfl rfl
 have h1 := beg_le p.t p.pl
 have h2 : beg p.t p.pl ≤ ind p.t p.pl := up_ge _ _ _
 have HO : qH 87 #[.string p.t, .agg #[.int .i64 (beg p.t p.pl), .int .i64 ((((min (ind p.t p.pl) p.pl) : Nat) : Int))]] (.string (inBl p)) := fun ww => tOf_any p.t _ _ _ _ ww hs rfl rfl qo qo
 have H := h
 have d0 := h.dk.c0
 have d1 := h.dk.c1
 have hld := h.dk.lt
 have hmn : min ((ind p.t p.pl : Nat) : Int) (p.pl : Int) = ((min (ind p.t p.pl) p.pl : Nat) : Int) := by omega
 generalize inBl p = X at *
 have hc : (p.pl < ind p.t p.pl ∧ min (ind p.t p.pl) p.pl = p.pl) ∨ (¬ p.pl < ind p.t p.pl ∧ min (ind p.t p.pl) p.pl = ind p.t p.pl) := by omega
 generalize hM : min (ind p.t p.pl) p.pl = M at *
 generalize beg p.t p.pl = LB at *
 generalize fin p.t p.pl = LE at *
 generalize ind p.t p.pl = LI at *
 clear h hmn h1 h2 hM
 have HL2 : Hid (∀ ww, RdAt ww r d p → qC 181 #[.pointer (some ⟨d, 0, none⟩)] ww (.agg #[.int .i64 (LB), .int .i64 (LE)])) := HL
 rcases hc with ⟨hc, hM⟩ | ⟨hc, hM⟩
 all_goals
  rw [hM] at HO
  clear hM M
  go_enter func307, ntmps307
  have g0 : (w.alloc (.cells #[.pointer (some ⟨d, 0, none⟩)] 80)).cell? ⟨w.heap.size, 0, none⟩ = some (.pointer (some ⟨d, 0, none⟩)) := by simp
  have H0 : RdAt (w.alloc (.cells #[.pointer (some ⟨d, 0, none⟩)] 80)) r d p := H.alloc _
  have d0' := H0.dk.c0
  have d1' := H0.dk.c1
  have hl0 := H0.dk.lt
  generalize hw0 : (w.alloc (.cells #[.pointer (some ⟨d, 0, none⟩)] 80)) = w0 at *
  have kz : w.heap.size < w0.heap.size := by rw [← hw0]; simp
  have HLw : Hid (∀ ww, (ww = w0.drew ∨ ww = (w0.alloc (.cells #[.int .i64 0, .int .i64 0] 128)).drew) → qC 181 #[.pointer (some ⟨d, 0, none⟩)] ww (.agg #[.int .i64 (LB), .int .i64 (LE)])) := by
   rintro ww (rfl | rfl)
   ·exact HL2.out _ H0.drew
   ·exact HL2.out _ (H0.alloc _).drew
  go_wp2_with fail
  go_region_held3 (fun ww => ww.cell? ⟨w.heap.size, 0, none⟩ = some (.pointer (some ⟨d, 0, none⟩)) ∧ ww.cell? ⟨d, 0, none⟩ = some (.string p.t)) ((refine ⟨?_, ?_⟩ <;> (first | (go_simp; done) | ((repeat (first | with_reducible assumption | (with_reducible refine memLater ((Below.refl _ _).alloc (Nat.le_refl _) _) ?_) | (with_reducible refine memLater ((Below.refl _ _).drew) ?_) | (with_reducible refine memLater h1 ?_) | (with_reducible refine memLater h2 ?_) | (with_reducible refine (memSet qo).trans ?_) | (go_simp; done))); done)))) (first | (go_at_call 181; with_reducible refine Calls.mono (HLw.out ((w0.alloc (.cells #[.int .i64 0, .int .i64 0] 128)).drew) (by first | exact Or.inl rfl | exact Or.inr rfl)) ?_; rintro r1 w1 ⟨rfl, h1⟩; have hz1 := h1.size; (try simp at hz1); (try have ⟨hl1_0, hk1_0⟩ := qL d w1.heap.size); (try have ⟨hl1_1, hk1_1⟩ := qL w.heap.size w1.heap.size); have nv0_0 : w1.cell? ⟨w0.heap.size, 0, none⟩ = some (.int .i64 0) := ((bcell h1).1 _ _ qO).trans qi; have nv0_1 : w1.cell? ⟨w0.heap.size, 1, none⟩ = some (.int .i64 0) := ((bcell h1).1 _ _ qO).trans qi; have nz0 : ∀ o, w1.frozen? ⟨w0.heap.size, o, none⟩ = false := fun o => ((bcell h1).2 _ o qO).trans qi; have nl0 : w0.heap.size < w1.heap.size := qo) | (go_at_call 181; with_reducible refine Calls.mono (HLw.out (w0.drew) (by first | exact Or.inl rfl | exact Or.inr rfl)) ?_; rintro r1 w1 ⟨rfl, h1⟩; have hz1 := h1.size; (try simp at hz1); (try have ⟨hl1_0, hk1_0⟩ := qL d w1.heap.size); (try have ⟨hl1_1, hk1_1⟩ := qL w.heap.size w1.heap.size)) | (go_at_call 187; with_reducible refine Calls.mono (HI.out (w1.alloc (.cells #[.int .i64 0, .int .i64 0] 128))) ?_; rintro r2 w2 ⟨rfl, h2⟩; have hz2 := h2.size; (try simp at hz2); (try have ⟨hl2_0, hk2_0⟩ := qL d w2.heap.size); (try have ⟨hl2_1, hk2_1⟩ := qL w.heap.size w2.heap.size); (try have nv0_0 := memLater h2 nv0_0); (try have nv0_1 := memLater h2 nv0_1); (try have nz0 : ∀ o, w2.frozen? ⟨w0.heap.size, o, none⟩ = false := fun o => ((bcell h2).2 _ o qO).trans (nz0 o)); (try have nl0 : w0.heap.size < w2.heap.size := qo); have nv1_0 : w2.cell? ⟨w1.heap.size, 0, none⟩ = some (.int .i64 0) := ((bcell h2).1 _ _ qO).trans qi; have nv1_1 : w2.cell? ⟨w1.heap.size, 1, none⟩ = some (.int .i64 0) := ((bcell h2).1 _ _ qO).trans qi; have nz1 : ∀ o, w2.frozen? ⟨w1.heap.size, o, none⟩ = false := fun o => ((bcell h2).2 _ o qO).trans qi; have nl1 : w1.heap.size < w2.heap.size := qo) | (go_at_call 187; with_reducible refine Calls.mono (HI.out w1) ?_; rintro r2 w2 ⟨rfl, h2⟩; have hz2 := h2.size; (try simp at hz2); (try have ⟨hl2_0, hk2_0⟩ := qL d w2.heap.size); (try have ⟨hl2_1, hk2_1⟩ := qL w.heap.size w2.heap.size); (try have nv0_0 := memLater h2 nv0_0); (try have nv0_1 := memLater h2 nv0_1); (try have nz0 : ∀ o, w2.frozen? ⟨w0.heap.size, o, none⟩ = false := fun o => ((bcell h2).2 _ o qO).trans (nz0 o)); (try have nl0 : w0.heap.size < w2.heap.size := qo)))
  have E : InAt w (w2.alloc (.cells #[.int .i64 LB, .int .i64 LI] 128)) r d w2.heap.size p LB LI := by
   refine ⟨RdAt.alloc ((H0.drew.below h1).below h2) _, memLater ((Below.refl _ _).alloc (Nat.le_refl _) _) (memLater h2 (memLater h1 (memLater ((Below.refl _ _).drew) g0))), Two.new _ _ _ _, ?_, by simp; omega, by omega⟩
   rw [← hw0] at h1
   exact qB
  generalize (w2.alloc (.cells #[.int .i64 LB, .int .i64 LI] 128)) = W at *
  generalize w2.heap.size = k at *
  rotate_left
  have E : InAt w ((w2.setCell ⟨w1.heap.size, 0, none⟩ (.int .i64 LB)).setCell ⟨w1.heap.size, 1, none⟩ (.int .i64 LI)) r d w1.heap.size p LB LI := by
   have t2 : Two w2 w1.heap.size 0 0 := ⟨nv1_0, nv1_1, nz1, nl1⟩
   have R2 : RdAt w2 r d p := ((H0.drew.below h1).alloc _).below h2
   refine ⟨RdAt.other (RdAt.other R2 (by simp; have := H.bg.lt; omega) qs _) (by simp; have := H.bg.lt; omega) qs _, ?_, Two.set1 (Two.set0 t2 _) _, ?_, by simp [World.setCell]; omega, by omega⟩
   ·exact (memSet qo).trans ((memSet qo).trans (memLater h2 (memLater ((Below.refl _ _).alloc (Nat.le_refl _) _) (memLater h1 (memLater ((Below.refl _ _).drew) g0)))))
   ·rw [← hw0] at h1
    exact qB
  generalize ((w2.setCell ⟨w1.heap.size, 0, none⟩ (.int .i64 LB)).setCell ⟨w1.heap.size, 1, none⟩ (.int .i64 LI)) = W at *
  generalize w1.heap.size = k at *
  rotate_left
  have E : InAt w ((w2.setCell ⟨w0.heap.size, 0, none⟩ (.int .i64 LB)).setCell ⟨w0.heap.size, 1, none⟩ (.int .i64 LI)) r d w0.heap.size p LB LI := by
   have t2 : Two w2 w0.heap.size 0 0 := ⟨nv0_0, nv0_1, nz0, nl0⟩
   have R2 : RdAt w2 r d p := ((H0.alloc _).drew.below h1).below h2
   refine ⟨RdAt.other (RdAt.other R2 (by simp; have := H.bg.lt; omega) qs _) (by simp; have := H.bg.lt; omega) qs _, ?_, Two.set1 (Two.set0 t2 _) _, ?_, by simp [World.setCell]; omega, by omega⟩
   ·exact (memSet qo).trans ((memSet qo).trans (memLater h2 (memLater h1 (memLater ((Below.refl _ _).drew) (memLater ((Below.refl _ _).alloc (Nat.le_refl _) _) g0)))))
   ·rw [← hw0] at h1
    exact qB
  generalize ((w2.setCell ⟨w0.heap.size, 0, none⟩ (.int .i64 LB)).setCell ⟨w0.heap.size, 1, none⟩ (.int .i64 LI)) = W at *
  generalize w0.heap.size = k at *
  rotate_left
  all_goals
   obtain ⟨rd, e0, tw, up, lg, lk⟩ := E
   have f0 := rd.dk.c0
   have f1 := rd.dk.c1
   have fl := rd.dk.lt
   have ⟨x0, x1, xz, xl⟩ := tw
   have ne1 : ¬ k = w.heap.size := by omega
   have ne2 : ¬ k = d := by omega
   go_wp2_with fail
   refine wp_region_held_drew (S := fun ww => ww.cell? ⟨w.heap.size, 0, none⟩ = some (.pointer (some ⟨d, 0, none⟩)) ∧ ww.cell? ⟨d, 1, none⟩ = some (.int .i64 p.pl)) qk ?_ (fun hHeld => ?_)
   ·exact ⟨memLater ((Below.refl _ _).drew) e0, memLater ((Below.refl _ _).drew) f1⟩
   refine qT 0 ?_
   simp only [Act.put, qP]
   refine qT 2 ?_
   simp only [Act.put, qP]
   refine qT 3 ?_
   simp only [Act.put, qP]
   refine qT 4 ?_
   simp only [Act.put, qP]
   refine qT 5 ?_
   simp only [Act.put, qP]
   refine qT 6 ?_
   simp only [Act.put, qP]
   have x1' : W.drew.cell? ⟨k, 1, none⟩ = some (.int .i64 LI) := memLater ((Below.refl _ _).drew) x1
   refine qR 1 fun K hK => ?_
   rw [if_pos (by rfl)]
   go_wp2_with fail
   refine hK.out _ _ ?_ (fun hHeld => ?_)
   ·exact ⟨memLater ((Below.refl _ _).drew) e0, memLater ((Below.refl _ _).drew) f1⟩
   clear hK K
   try simp only [Act.put, qP]
   refine qT 7 ?_
   simp only [Act.put, qP]
   refine qT 8 ?_
   simp only [Act.put, qP]
   refine qR 9 fun K hK => ?_
   rw [if_pos (by rfl)]
   go_wp2_with fail
   refine hK.out _ _ ?_ (fun hHeld => ?_)
   ·exact ⟨by go_simp, by go_simp⟩
   clear hK K
   try simp only [Act.put, qP]
   refine wpAnyH_done qk ?_ _
   first
   | (
     have R3 : RdAt (W.setCell ⟨k, 1, none⟩ (.int .i64 p.pl)).drew r d p := (RdAt.other rd (by simp; have := H.bg.lt; omega) qs _).drew
     have y0 : (W.setCell ⟨k, 1, none⟩ (.int .i64 p.pl)).drew.cell? ⟨k, 0, none⟩ = some (.int .i64 LB) := (by go_simp)
     have y1 : (W.setCell ⟨k, 1, none⟩ (.int .i64 p.pl)).drew.cell? ⟨k, 1, none⟩ = some (.int .i64 p.pl) := (by go_simp)
     have y2 : (W.setCell ⟨k, 1, none⟩ (.int .i64 p.pl)).drew.cell? ⟨w.heap.size, 0, none⟩ = some (.pointer (some ⟨d, 0, none⟩)) := (by go_simp)
     have y3 : (W.setCell ⟨k, 1, none⟩ (.int .i64 p.pl)).drew.cell? ⟨d, 0, none⟩ = some (.string p.t) := R3.dk.c0
     have B3 : Below w.heap.size w (W.setCell ⟨k, 1, none⟩ (.int .i64 p.pl)).drew := (Below.setCell up qs _).drew
     have z1 : w.heap.size < (W.setCell ⟨k, 1, none⟩ (.int .i64 p.pl)).drew.heap.size := (by simp [World.setCell]; omega)
     have z2 : d < (W.setCell ⟨k, 1, none⟩ (.int .i64 p.pl)).drew.heap.size := R3.dk.lt
     have z3 : k < (W.setCell ⟨k, 1, none⟩ (.int .i64 p.pl)).drew.heap.size := (by simp [World.setCell]; omega)
     generalize (W.setCell ⟨k, 1, none⟩ (.int .i64 p.pl)).drew = W3 at *
     go_wp2_with fail
     go_region_held3 (fun ww => ww.cell? ⟨w.heap.size, 0, none⟩ = some (.pointer (some ⟨d, 0, none⟩)) ∧ ww.cell? ⟨d, 0, none⟩ = some (.string p.t) ∧ ww.cell? ⟨k, 0, none⟩ = some (.int .i64 LB) ∧ ww.cell? ⟨k, 1, none⟩ = some (.int .i64 p.pl)) ((refine ⟨?_, ?_, ?_, ?_⟩ <;> (first | (go_simp; done) | ((repeat (first | with_reducible assumption | (with_reducible refine memLater ((Below.refl _ _).alloc (Nat.le_refl _) _) ?_) | (with_reducible refine memLater ((Below.refl _ _).drew) ?_) | (with_reducible refine memLater h4 ?_) | (with_reducible refine (memSet qo).trans ?_) | (go_simp; done))); done)))) ((go_at_call 87; refine Calls.mono (HO.out _) ?_; rintro r4 w4 ⟨rfl, h4⟩; have hz4 := h4.size; (try simp at hz4); (try have ⟨hl4_0, hk4_0⟩ := qL d w4.heap.size); (try have ⟨hl4_1, hk4_1⟩ := qL k w4.heap.size); (try have ⟨hl4_2, hk4_2⟩ := qL w.heap.size w4.heap.size)))
     go_wp2
     go_ret
     refine ⟨rfl, ?_⟩
     exact qB
     )
   | (
     have R3 : RdAt (W.setCell ⟨k, 1, none⟩ (.int .i64 LI)).drew r d p := (RdAt.other rd (by simp; have := H.bg.lt; omega) qs _).drew
     have y0 : (W.setCell ⟨k, 1, none⟩ (.int .i64 LI)).drew.cell? ⟨k, 0, none⟩ = some (.int .i64 LB) := (by go_simp)
     have y1 : (W.setCell ⟨k, 1, none⟩ (.int .i64 LI)).drew.cell? ⟨k, 1, none⟩ = some (.int .i64 LI) := (by go_simp)
     have y2 : (W.setCell ⟨k, 1, none⟩ (.int .i64 LI)).drew.cell? ⟨w.heap.size, 0, none⟩ = some (.pointer (some ⟨d, 0, none⟩)) := (by go_simp)
     have y3 : (W.setCell ⟨k, 1, none⟩ (.int .i64 LI)).drew.cell? ⟨d, 0, none⟩ = some (.string p.t) := R3.dk.c0
     have B3 : Below w.heap.size w (W.setCell ⟨k, 1, none⟩ (.int .i64 LI)).drew := (Below.setCell up qs _).drew
     have z1 : w.heap.size < (W.setCell ⟨k, 1, none⟩ (.int .i64 LI)).drew.heap.size := (by simp [World.setCell]; omega)
     have z2 : d < (W.setCell ⟨k, 1, none⟩ (.int .i64 LI)).drew.heap.size := R3.dk.lt
     have z3 : k < (W.setCell ⟨k, 1, none⟩ (.int .i64 LI)).drew.heap.size := (by simp [World.setCell]; omega)
     generalize (W.setCell ⟨k, 1, none⟩ (.int .i64 LI)).drew = W3 at *
     go_wp2_with fail
     go_region_held3 (fun ww => ww.cell? ⟨w.heap.size, 0, none⟩ = some (.pointer (some ⟨d, 0, none⟩)) ∧ ww.cell? ⟨d, 0, none⟩ = some (.string p.t) ∧ ww.cell? ⟨k, 0, none⟩ = some (.int .i64 LB) ∧ ww.cell? ⟨k, 1, none⟩ = some (.int .i64 LI)) ((refine ⟨?_, ?_, ?_, ?_⟩ <;> (first | (go_simp; done) | ((repeat (first | with_reducible assumption | (with_reducible refine memLater ((Below.refl _ _).alloc (Nat.le_refl _) _) ?_) | (with_reducible refine memLater ((Below.refl _ _).drew) ?_) | (with_reducible refine memLater h4 ?_) | (with_reducible refine (memSet qo).trans ?_) | (go_simp; done))); done)))) ((go_at_call 87; refine Calls.mono (HO.out _) ?_; rintro r4 w4 ⟨rfl, h4⟩; have hz4 := h4.size; (try simp at hz4); (try have ⟨hl4_0, hk4_0⟩ := qL d w4.heap.size); (try have ⟨hl4_1, hk4_1⟩ := qL k w4.heap.size); (try have ⟨hl4_2, hk4_2⟩ := qL w.heap.size w4.heap.size)))
     go_wp2
     go_ret
     refine ⟨rfl, ?_⟩
     exact qB
     )
def putP (p : Pg) (b : ByteArray) : Pg := if (put p.t b p.pl).size ≤ 1000 then { p with t := put p.t b p.pl, pl := p.pl + b.size } else p
def wipeP (p : Pg) : Pg := if p.pl = 0 then p else { p with t := p.t.extract 0 (p.pl - 1) ++ p.t.extract p.pl p.t.size, pl := p.pl - 1 }
theorem iPut_any (r d : Nat) (p : Pg) (b : ByteArray) (w : World) (h : RdAt w r d p) (hs : p.t.size ≤ 1000) (hb : b.size ≤ 1000000) (hk : p.pl ≤ p.t.size) :
  Calls Tryz.prog 306 #[.agg #[.pointer (some ⟨d, 0, none⟩)], .string b] w fun e w' => e = .returned (.tuple #[]) ∧ RdAt w' r d (putP p b) ∧ Upd [d] w w' := by
 unfold putP
 by_cases hf : (put p.t b p.pl).size ≤ 1000
 ·rw [if_pos hf]; exact iPut_fits r d p b w h hs hb hk hf
 ·rw [if_neg hf]
  refine Calls.mono (iPut_long r d p b w h hs hb hk qo) ?_
  rintro e w' ⟨rfl, h1⟩
  exact ⟨rfl, h.below h1, Upd.of_below h1⟩
theorem iWipe_any (r d : Nat) (p : Pg) (w : World) (h : RdAt w r d p) (hs : p.t.size ≤ 1000) (hk : p.pl ≤ p.t.size) :
  Calls Tryz.prog 308 #[.agg #[.pointer (some ⟨d, 0, none⟩)]] w fun e w' => e = .returned (.tuple #[]) ∧ RdAt w' r d (wipeP p) ∧ Upd [d] w w' := by
 unfold wipeP
 by_cases hf : p.pl = 0
 ·rw [if_pos hf]
  refine Calls.mono (iWipe_none r d p w h hf) ?_
  rintro e w' ⟨rfl, h1⟩
  exact ⟨rfl, h.below h1, Upd.of_below h1⟩
 ·rw [if_neg hf]
  have := iWipe_one r d p (p.pl - 1) w h qo hs hk
  rw [show p.pl - 1 + 1 = p.pl by omega] at this
  exact this
def insP (p : Pg) (c : UInt8) : Pg :=
 if c.toNat = 10 then putP p (⟨#[10]⟩ ++ inBl p) else if c.toNat = 8 ∨ c.toNat = 127 then wipeP p else if c.toNat = 9 ∨ 32 ≤ c.toNat then putP p ⟨#[c]⟩ else p
theorem conv_oneB (ww : World) (n : Nat) (u : UInt8) (h : ww.cell? ⟨n, 0, none⟩ = some (.int .u8 u.toNat)) :
  (convert 48 9 (.slice (some ⟨n, 0, none⟩) 1 1)).run Tryz.prog ww = .ok (.string ⟨#[u]⟩) ww := by
 rw [run_convert_bytes_string ww 48 9 5 _ _ _ qk qk qk]
 rw [run_bytesToString ww ⟨n, 0, none⟩ 1 1 [(u.toNat : Int)] (by simp [loadCells, go_sem, h])]
 simp
 rfl
theorem mWritten (c : Int) (w : World) :
  Calls Tryz.prog 163 #[.int .u8 c] w fun e w' => e = .returned (.bool (decide (c = 9 ∨ 32 ≤ c))) ∧ w' = w := by
 by_cases h9 : c = 9
 ·rw [decide_eq_true (Or.inl h9)]
  subst h9
  go_enter func163, ntmps163
  go_wp2
  go_ret
  exact ⟨rfl, rfl⟩
 ·by_cases h32 : 32 ≤ c
  ·rw [decide_eq_true (Or.inr h32)]
   go_enter func163, ntmps163
   go_wp2
   all_goals
    go_ret
    exact ⟨by first | rfl | simp_all, rfl⟩
  ·rw [decide_eq_false qo]
   go_enter func163, ntmps163
   go_wp2
   all_goals
    go_ret
    exact ⟨by first | rfl | simp_all, rfl⟩
theorem iTake (r d : Nat) (p : Pg) (c : UInt8) (w : World) (h : RdAt w r d p) (hs : p.t.size ≤ 1000) (hk : p.pl ≤ p.t.size) :
  Calls Tryz.prog 305 #[.agg #[.pointer (some ⟨d, 0, none⟩)], .int .u8 c.toNat] w fun e w' => e = .returned (.int .i64 1) ∧ RdAt w' r d (insP p c) ∧ Upd [d] w w' := by
 have hIn : (inBl p).size ≤ 1000 := by unfold inBl; rw [ByteArray.size_extract]; omega
 have HN : Hid (∀ ww, RdAt ww r d p → qC 307 #[.agg #[.pointer (some ⟨d, 0, none⟩)]] ww (.string (inBl p))) := fun ww hh => iIndent r d p ww hh hs hk
 have HP1 : Hid (∀ ww, RdAt ww r d p → Calls Tryz.prog 306 #[.agg #[.pointer (some ⟨d, 0, none⟩)], .string (⟨#[10]⟩ ++ inBl p)] ww fun e w' => e = .returned (.tuple #[]) ∧ RdAt w' r d (putP p (⟨#[10]⟩ ++ inBl p)) ∧ Upd [d] ww w') := fun ww hh => iPut_any r d p _ ww hh hs (by rw [ByteArray.size_append]; have : (⟨#[10]⟩ : ByteArray).size = 1 := rfl; omega) hk
 have HP2 : Hid (∀ ww, RdAt ww r d p → Calls Tryz.prog 306 #[.agg #[.pointer (some ⟨d, 0, none⟩)], .string ⟨#[c]⟩] ww fun e w' => e = .returned (.tuple #[]) ∧ RdAt w' r d (putP p ⟨#[c]⟩) ∧ Upd [d] ww w') := fun ww hh => iPut_any r d p _ ww hh hs (by have : (⟨#[c]⟩ : ByteArray).size = 1 := rfl; omega) hk
 have HW : Hid (∀ ww, RdAt ww r d p → Calls Tryz.prog 308 #[.agg #[.pointer (some ⟨d, 0, none⟩)]] ww fun e w' => e = .returned (.tuple #[]) ∧ RdAt w' r d (wipeP p) ∧ Upd [d] ww w') := fun ww hh => iWipe_any r d p ww hh hs hk
 have HI : Hid (∀ ww, Calls Tryz.prog 163 #[.int .u8 c.toNat] ww fun e w' => e = .returned (.bool (decide ((c.toNat : Int) = 9 ∨ 32 ≤ (c.toNat : Int)))) ∧ w' = ww) := fun ww => mWritten _ ww
 have hcv := fun (ww : World) (n : Nat) (hh : ww.cell? ⟨n, 0, none⟩ = some (.int .u8 c.toNat)) => conv_oneB ww n c hh
 have H := h
 have hld := h.dk.lt
 unfold insP
 generalize hpp1 : putP p (⟨#[10]⟩ ++ inBl p) = q1 at *
 generalize hpp2 : putP p ⟨#[c]⟩ = q2 at *
 generalize wipeP p = q3 at *
 have fsz : ¬ 9223372036854775807 < (inBl p).size + 1 := by omega
 have fsz2 : ¬ 9223372036854775807 < 1 + (inBl p).size := by omega
 generalize inBl p = X at *
 by_cases h10 : c.toNat = 10
 ·rw [if_pos h10]
  have e10 : ((c.toNat : Nat) : Int) = 10 := by omega
  rw [e10]
  clear HP2 HI hcv
  go_enter func305, ntmps305
  have g0 : (w.alloc (.cells #[.pointer (some ⟨d, 0, none⟩)] 80)).cell? ⟨w.heap.size, 0, none⟩ = some (.pointer (some ⟨d, 0, none⟩)) := by simp
  go_wp2_with fail
  go_region_held3 (fun ww => ww.cell? ⟨w.heap.size, 0, none⟩ = some (.pointer (some ⟨d, 0, none⟩))) ((first | (go_simp; done) | ((repeat exact qM); done))) (first | (go_at_call 307; refine Calls.mono (HN.out _ qRd) ?_; rintro r1 w1 ⟨rfl, h1⟩; have hz1 := h1.size; (try simp at hz1); (try have ⟨hl1_0, hk1_0⟩ := qL w.heap.size w1.heap.size)) | (go_at_call 306; refine Calls.mono (HP1.out _ qRd) ?_; rintro r3 w3 ⟨rfl, h3, u3⟩; have hz3 := u3.size; (try simp at hz3); have a2 := u3.was (b := w.heap.size) (o := 0) (v := .pointer (some ⟨d, 0, none⟩)) qM qs))
  exact qt16
 ·rw [if_neg h10]
  have e10 : (((c.toNat : Nat) : Int) == 10) = false := by simp; omega
  by_cases h8 : c.toNat = 8 ∨ c.toNat = 127
  ·rw [if_pos h8]
   clear HP1 HP2 HI hcv HN
   rcases h8 with h8 | h8
   all_goals
    have e8 : (((c.toNat : Nat) : Int) = 8) ∨ (((c.toNat : Nat) : Int) = 127) := by omega
    rw [show ((c.toNat : Nat) : Int) = _ from congrArg Nat.cast h8]
    go_enter func305, ntmps305
    go_wp2_with fail
    refine Calls.mono (HW.out _ qRd) ?_
    rintro e w1 ⟨rfl, h1, u1⟩
    go_wp2
    go_ret
    refine ⟨rfl, ?_, ?_⟩
    ·repeat exact qRd
    ·repeat exact qU
  ·rw [if_neg h8]
   have e8 : (((c.toNat : Nat) : Int) == 8) = false := by simp; omega
   have e127 : (((c.toNat : Nat) : Int) == 127) = false := by simp; omega
   clear HP1 HN HW
   by_cases hw : c.toNat = 9 ∨ 32 ≤ c.toNat
   ·rw [if_pos hw]
    have HI2 : Hid (∀ ww, Calls Tryz.prog 163 #[.int .u8 c.toNat] ww fun e w' => e = .returned (.bool true) ∧ w' = ww) := by
     intro ww
     have := HI.out ww
     rw [decide_eq_true qo] at this
     exact this
    clear HI hw
    go_enter func305, ntmps305
    go_wp2_with fail
    refine (HI2.out _).mono ?_
    rintro e w' ⟨rfl, rfl⟩
    go_wp2_with fail
    refine Calls.mono (HP2.out _ qRd) ?_
    rintro e w1 ⟨rfl, h1, u1⟩
    exact qt16
   ·rw [if_neg hw]
    have HI2 : Hid (∀ ww, Calls Tryz.prog 163 #[.int .u8 c.toNat] ww fun e w' => e = .returned (.bool false) ∧ w' = ww) := by
     intro ww
     have := HI.out ww
     rw [decide_eq_false qo] at this
     exact this
    clear HI hw hcv
    go_enter func305, ntmps305
    go_wp2_with fail
    refine (HI2.out _).mono ?_
    rintro e w' ⟨rfl, rfl⟩
    exact qt16
theorem mBegin_i (r d : Nat) (p : Pg) (w : World) (h : RdAt w r d p) (hs : p.t.size ≤ 1000) (hl : p.pl ≤ p.t.size) :
  Calls Tryz.prog 152 #[.agg #[.pointer (some ⟨r, 0, none⟩)], .int .u8 105] w fun e w' => e = .returned (.int .i64 1) ∧ RdAt w' r d { p with mode := 1, anchor := 0, pl := p.pl } ∧ Upd [d] w w' := by
 have HL : Hid (∀ ww, RdAt ww r d p → qC 181 #[.pointer (some ⟨d, 0, none⟩)] ww (.agg #[.int .i64 (beg p.t p.pl), .int .i64 (fin p.t p.pl)])) := fun ww hh => mLine r d p ww hh hs hl
 have HI : Hid (∀ ww, RdAt ww r d p → Calls Tryz.prog 178 #[.pointer (some ⟨d, 0, none⟩), .int .i64 p.pl] ww fun e w' => e = .returned (.int .i64 1) ∧ RdAt w' r d { p with mode := 1, anchor := 0, pl := p.pl } ∧ Upd [d] ww w') := fun ww hh => mInsertAt r d p p.pl ww hh
 have H := h
 have b0 := h.bg.c0
 have bl := h.bg.lt
 have c1 := h.dk.c1
 have dl := h.dk.lt
 have l1 : r < w.heap.size + 1 := by omega
 have l2 : d < w.heap.size + 1 := by omega
 generalize hP : ({ p with mode := 1, anchor := 0, pl := p.pl } : Pg) = p2 at *
 generalize beg p.t p.pl = LB at *
 generalize fin p.t p.pl = LE at *
 have q2 : p2.pl = p.pl := by rw [← hP]
 clear hP
 go_enter func152, ntmps152
 go_wp2_with fail
 refine Calls.mono (HL.out _ qRd) ?_
 rintro e w1 ⟨rfl, h1⟩
 have hz1 := h1.size
 (try simp at hz1)
 have g0 : w1.cell? ⟨w.heap.size, 0, none⟩ = some (.pointer (some ⟨r, 0, none⟩)) := memLater h1 qi
 go_wp2_with fail
 go_region_held3 (fun ww => ww.cell? ⟨w.heap.size, 0, none⟩ = some (.pointer (some ⟨r, 0, none⟩)) ∧ ww.cell? ⟨r, 0, none⟩ = some (.pointer (some ⟨d, 0, none⟩)) ∧ ww.cell? ⟨d, 1, none⟩ = some (.int .i64 p.pl)) (exact qK) ((go_at_call 178; refine Calls.mono (HI.out _ qRd) ?_; rintro r3 w3 ⟨rfl, h3, u3⟩; have hz3 := u3.size; (try simp at hz3); have a0 := h3.bg.c0; have a1 := h3.dk.c1; rw [q2] at a1; have a2 := u3.was (b := w.heap.size) (o := 0) (v := .pointer (some ⟨r, 0, none⟩)) qM qs))
 exact qt16
theorem mBegin_A (r d : Nat) (p : Pg) (w : World) (h : RdAt w r d p) (hs : p.t.size ≤ 1000) (hl : p.pl ≤ p.t.size) :
  Calls Tryz.prog 152 #[.agg #[.pointer (some ⟨r, 0, none⟩)], .int .u8 65] w fun e w' => e = .returned (.int .i64 1) ∧ RdAt w' r d { p with mode := 1, anchor := 0, pl := fin p.t p.pl } ∧ Upd [d] w w' := by
 have HL : Hid (∀ ww, RdAt ww r d p → qC 181 #[.pointer (some ⟨d, 0, none⟩)] ww (.agg #[.int .i64 (beg p.t p.pl), .int .i64 (fin p.t p.pl)])) := fun ww hh => mLine r d p ww hh hs hl
 have HI : Hid (∀ ww, RdAt ww r d p → Calls Tryz.prog 178 #[.pointer (some ⟨d, 0, none⟩), .int .i64 ((fin p.t p.pl : Nat) : Int)] ww fun e w' => e = .returned (.int .i64 1) ∧ RdAt w' r d { p with mode := 1, anchor := 0, pl := fin p.t p.pl } ∧ Upd [d] ww w') := fun ww hh => mInsertAt r d p (fin p.t p.pl) ww hh
 have H := h
 have b0 := h.bg.c0
 have bl := h.bg.lt
 have c1 := h.dk.c1
 have dl := h.dk.lt
 have l1 : r < w.heap.size + 1 := by omega
 have l2 : d < w.heap.size + 1 := by omega
 generalize hP : ({ p with mode := 1, anchor := 0, pl := fin p.t p.pl } : Pg) = p2 at *
 generalize beg p.t p.pl = LB at *
 generalize fin p.t p.pl = LE at *
 clear hP
 go_enter func152, ntmps152
 go_wp2_with fail
 refine Calls.mono (HL.out _ qRd) ?_
 rintro e w1 ⟨rfl, h1⟩
 have hz1 := h1.size
 (try simp at hz1)
 have g0 : w1.cell? ⟨w.heap.size, 0, none⟩ = some (.pointer (some ⟨r, 0, none⟩)) := memLater h1 qi
 have x0 : (w1.alloc (.cells #[.int .i64 LB, .int .i64 LE] 128)).cell? ⟨w1.heap.size, 0, none⟩ = some (.int .i64 LB) := by simp
 have x1 : (w1.alloc (.cells #[.int .i64 LB, .int .i64 LE] 128)).cell? ⟨w1.heap.size, 1, none⟩ = some (.int .i64 LE) := by simp
 go_wp2_with fail
 go_region_held3 (fun ww => ww.cell? ⟨w.heap.size, 0, none⟩ = some (.pointer (some ⟨r, 0, none⟩)) ∧ ww.cell? ⟨r, 0, none⟩ = some (.pointer (some ⟨d, 0, none⟩)) ∧ ww.cell? ⟨w1.heap.size, 0, none⟩ = some (.int .i64 LB) ∧ ww.cell? ⟨w1.heap.size, 1, none⟩ = some (.int .i64 LE)) (exact qK) ((go_at_call 178; refine Calls.mono (HI.out _ qRd) ?_; rintro r3 w3 ⟨rfl, h3, u3⟩; have hz3 := u3.size; (try simp at hz3); have a0 := h3.bg.c0; have b1 := u3.was (b := w1.heap.size) (o := 0) (v := .int .i64 LB) (memLater ((Below.refl _ _).drew) x0) qs; have b2 := u3.was (b := w1.heap.size) (o := 1) (v := .int .i64 LE) (memLater ((Below.refl _ _).drew) x1) qs; have a2 := u3.was (b := w.heap.size) (o := 0) (v := .pointer (some ⟨r, 0, none⟩)) qM qs))
 exact qt16
theorem mBegin_I (r d : Nat) (p : Pg) (w : World) (h : RdAt w r d p) (hs : p.t.size ≤ 1000) (hl : p.pl ≤ p.t.size) :
  Calls Tryz.prog 152 #[.agg #[.pointer (some ⟨r, 0, none⟩)], .int .u8 73] w fun e w' => e = .returned (.int .i64 1) ∧ RdAt w' r d { p with mode := 1, anchor := 0, pl := ind p.t p.pl } ∧ Upd [d] w w' := by
 have HL : Hid (∀ ww, RdAt ww r d p → qC 181 #[.pointer (some ⟨d, 0, none⟩)] ww (.agg #[.int .i64 (beg p.t p.pl), .int .i64 (fin p.t p.pl)])) := fun ww hh => mLine r d p ww hh hs hl
 have HI : Hid (∀ ww, RdAt ww r d p → Calls Tryz.prog 178 #[.pointer (some ⟨d, 0, none⟩), .int .i64 ((ind p.t p.pl : Nat) : Int)] ww fun e w' => e = .returned (.int .i64 1) ∧ RdAt w' r d { p with mode := 1, anchor := 0, pl := ind p.t p.pl } ∧ Upd [d] ww w') := fun ww hh => mInsertAt r d p (ind p.t p.pl) ww hh
 have HN : qH 187 #[.string p.t, .agg #[.int .i64 (beg p.t p.pl), .int .i64 (fin p.t p.pl)]] (.agg #[.int .i64 (beg p.t p.pl), .int .i64 (ind p.t p.pl)]) := fun ww => tIndent_any p.t _ _ p.pl ww hs hl rfl rfl
 have c0 := h.dk.c0
 have H := h
 have b0 := h.bg.c0
 have bl := h.bg.lt
 have c1 := h.dk.c1
 have dl := h.dk.lt
 have l1 : r < w.heap.size + 1 := by omega
 have l2 : d < w.heap.size + 1 := by omega
 generalize hP : ({ p with mode := 1, anchor := 0, pl := ind p.t p.pl } : Pg) = p2 at *
 generalize beg p.t p.pl = LB at *
 generalize fin p.t p.pl = LE at *
 generalize ind p.t p.pl = LI at *
 have hx := ix1 LB LI
 have q2 : p2.t = p.t := by rw [← hP]
 clear hP
 go_enter func152, ntmps152
 go_wp2_with fail
 refine Calls.mono (HL.out _ qRd) ?_
 rintro e w1 ⟨rfl, h1⟩
 have hz1 := h1.size
 (try simp at hz1)
 have g0 : w1.cell? ⟨w.heap.size, 0, none⟩ = some (.pointer (some ⟨r, 0, none⟩)) := memLater h1 qi
 have x0 : (w1.alloc (.cells #[.int .i64 LB, .int .i64 LE] 128)).cell? ⟨w1.heap.size, 0, none⟩ = some (.int .i64 LB) := by simp
 have x1 : (w1.alloc (.cells #[.int .i64 LB, .int .i64 LE] 128)).cell? ⟨w1.heap.size, 1, none⟩ = some (.int .i64 LE) := by simp
 go_wp2_with fail
 go_region_held3 (fun ww => ww.cell? ⟨w.heap.size, 0, none⟩ = some (.pointer (some ⟨r, 0, none⟩)) ∧ ww.cell? ⟨r, 0, none⟩ = some (.pointer (some ⟨d, 0, none⟩)) ∧ ww.cell? ⟨d, 0, none⟩ = some (.string p.t) ∧ ww.cell? ⟨w1.heap.size, 0, none⟩ = some (.int .i64 LB) ∧ ww.cell? ⟨w1.heap.size, 1, none⟩ = some (.int .i64 LE)) (exact qK) (first | (go_at_call 187; refine Calls.mono (HN.out _) ?_; rintro r2 w2 ⟨rfl, h2⟩; have hz2 := h2.size; (try simp at hz2); (try have ⟨hl2_0, hk2_0⟩ := qL d w2.heap.size); (try have ⟨hl2_1, hk2_1⟩ := qL r w2.heap.size); (try have ⟨hl2_2, hk2_2⟩ := qL w.heap.size w2.heap.size); (try have ⟨hl2_3, hk2_3⟩ := qL w1.heap.size w2.heap.size)) | (go_at_call 178; refine Calls.mono (HI.out _ qRd) ?_; rintro r3 w3 ⟨rfl, h3, u3⟩; have hz3 := u3.size; (try simp at hz3); have a0 := h3.bg.c0; have a1 := h3.dk.c0; rw [q2] at a1; have b1 := u3.was (b := w1.heap.size) (o := 0) (v := .int .i64 LB) (memLater h2 (memLater ((Below.refl _ _).drew) x0)) qs; have b2 := u3.was (b := w1.heap.size) (o := 1) (v := .int .i64 LE) (memLater h2 (memLater ((Below.refl _ _).drew) x1)) qs; have a2 := u3.was (b := w.heap.size) (o := 0) (v := .pointer (some ⟨r, 0, none⟩)) qM qs))
 exact qt16
