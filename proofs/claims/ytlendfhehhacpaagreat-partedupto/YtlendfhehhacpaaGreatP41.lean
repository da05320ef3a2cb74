/- A part. -/
import Derived.Test.YtlendfhehhacpaaGreatP34
import Derived.Test.YtlendfhehhacpaaGreatP33
set_option linter.unusedVariables false
set_option linter.unusedSimpArgs false
set_option maxRecDepth 100000
set_option maxHeartbeats 8000000
namespace Go.Proofs.YtlendfhehhacpaaGreat
open Go.RowKit
theorem mBegin_a (r d : Nat) (p : Pg) (w : World) (h : RdAt w r d p) (hs : p.t.size ≤ 1000) (hl : p.pl ≤ p.t.size) :
  Calls Tryz.prog 152 #[.agg #[.pointer (some ⟨r, 0, none⟩)], .int .u8 97] w fun e w' => e = .returned (.int .i64 1) ∧ RdAt w' r d { p with mode := 1, anchor := 0, pl := min (p.pl + 1) (Nib.fin p.t p.pl) } ∧ Upd [d] w w' := by
 have HL : Hid (∀ ww, RdAt ww r d p → qC 181 #[.pointer (some ⟨d, 0, none⟩)] ww (.agg #[.int .i64 (Nib.beg p.t p.pl), .int .i64 (Nib.fin p.t p.pl)])) := fun ww hh => mLine r d p ww hh hs hl
 obtain ⟨MI, hMI, hcase⟩ : ∃ MI : Int, MI = ((min (p.pl + 1) (Nib.fin p.t p.pl) : Nat) : Int) ∧ ((MI = (Nib.fin p.t p.pl : Nat) ∧ Nib.fin p.t p.pl < p.pl + 1 ∧ ((Nib.fin p.t p.pl : Nat) : Int) < (p.pl : Int) + 1) ∨ (MI = (p.pl : Int) + 1 ∧ ¬ Nib.fin p.t p.pl < p.pl + 1 ∧ ¬ ((Nib.fin p.t p.pl : Nat) : Int) < (p.pl : Int) + 1)) := ⟨_, rfl, by omega⟩
 have HI : Hid (∀ ww, RdAt ww r d p → Calls Tryz.prog 178 #[.pointer (some ⟨d, 0, none⟩), .int .i64 MI] ww fun e w' => e = .returned (.int .i64 1) ∧ RdAt w' r d { p with mode := 1, anchor := 0, pl := min (p.pl + 1) (Nib.fin p.t p.pl) } ∧ Upd [d] ww w') := by
  intro ww hh
  rw [hMI]
  exact mInsertAt r d p _ ww hh
 have H := h
 have b0 := h.bg.c0
 have bl := h.bg.lt
 have c1 := h.dk.c1
 have dl := h.dk.lt
 have l1 : r < w.heap.size + 1 := by omega
 have l2 : d < w.heap.size + 1 := by omega
 have hwr : IntKind.i64.wrap ((p.pl : Int) + 1) = (p.pl : Int) + 1 := by rw [IntKind.wrap_i64]; omega
 generalize hP : ({ p with mode := 1, anchor := 0, pl := min (p.pl + 1) (Nib.fin p.t p.pl) } : Pg) = p2 at *
 generalize Nib.beg p.t p.pl = LB at *
 generalize Nib.fin p.t p.pl = LE at *
 clear hP hMI
 rcases hcase with ⟨hm, hm1, hm2⟩ | ⟨hm, hm1, hm2⟩
 all_goals
  subst hm
  go_enter Tryz.func152, Tryz.ntmps152
  go_wp2_with fail
  refine Calls.mono (HL.out _ qRd) ?_
  rintro e w1 ⟨rfl, h1⟩
  have hz1 := h1.size
  (try simp at hz1)
  have g0 : w1.cell? ⟨w.heap.size, 0, none⟩ = some (.pointer (some ⟨r, 0, none⟩)) := memLater h1 qi
  go_wp2_with fail
  have H1 : RdAt (w1.alloc (.cells #[.int .i64 LB, .int .i64 LE] 128)) r d p := ((H.alloc _).below h1).alloc _
  have g1 : (w1.alloc (.cells #[.int .i64 LB, .int .i64 LE] 128)).cell? ⟨w.heap.size, 0, none⟩ = some (.pointer (some ⟨r, 0, none⟩)) := memLater ((Below.refl _ _).alloc (Nat.le_refl _) _) g0
  have x1 : (w1.alloc (.cells #[.int .i64 LB, .int .i64 LE] 128)).cell? ⟨w1.heap.size, 1, none⟩ = some (.int .i64 LE) := by simp
  have U1 : Upd [d] w (w1.alloc (.cells #[.int .i64 LB, .int .i64 LE] 128)) := by
   repeat exact qU
  have k1 : w.heap.size < (w1.alloc (.cells #[.int .i64 LB, .int .i64 LE] 128)).heap.size := by simp; omega
  have k2 : w1.heap.size < (w1.alloc (.cells #[.int .i64 LB, .int .i64 LE] 128)).heap.size := by simp
  generalize (w1.alloc (.cells #[.int .i64 LB, .int .i64 LE] 128)) = W at *
  have r0 := H1.bg.c0
  have e1 := H1.dk.c1
  refine wp_region_held_drew (S := fun ww => ww.cell? ⟨w.heap.size, 0, none⟩ = some (.pointer (some ⟨r, 0, none⟩)) ∧ ww.cell? ⟨r, 0, none⟩ = some (.pointer (some ⟨d, 0, none⟩)) ∧ ww.cell? ⟨w1.heap.size, 1, none⟩ = some (.int .i64 LE)) qk ?_ (fun hHeld => ?_)
  ·exact ⟨memLater ((Below.refl _ _).drew) g1, memLater ((Below.refl _ _).drew) r0, memLater ((Below.refl _ _).drew) x1⟩
  refine qT 0 ?_
  simp only [Act.put, qP]
  refine qT 1 ?_
  simp only [Act.put, qP]
  refine qT 2 ?_
  simp only [Act.put, qP]
  refine qT 3 ?_
  simp only [Act.put, qP]
  refine qT 4 ?_
  simp only [Act.put, qP]
  refine qT 5 ?_
  simp only [Act.put, qP]
  refine qT 6 ?_
  simp only [Act.put, qP]
  refine qT 7 ?_
  simp only [Act.put, qP]
  refine qT 8 ?_
  simp only [Act.put, qP]
  refine qT 9 ?_
  simp only [Act.put, qP]
  refine qT 10 ?_
  simp only [Act.put, qP]
  refine qT 11 ?_
  simp only [Act.put, qP]
  refine qT 14 ?_
  simp only [Act.put, qP]
  refine qT 15 ?_
  simp only [Act.put, qP]
  have e1' : W.drew.cell? ⟨d, 1, none⟩ = some (.int .i64 p.pl) := memLater ((Below.refl _ _).drew) e1
  refine qR 12 fun K hK => ?_
  rw [if_pos (by rfl)]
  go_wp2_with fail
  refine hK.out _ _ ?_ (fun hHeld => ?_)
  ·exact ⟨memLater ((Below.refl _ _).drew) g1, memLater ((Below.refl _ _).drew) r0, memLater ((Below.refl _ _).drew) x1⟩
  clear hK K
  try simp only [Act.put, qP]
  refine qT 13 ?_
  simp only [Act.put, qP]
  refine qT 16 ?_
  simp only [Act.put, qP]
  refine qR 17 fun K hK => ?_
  rw [if_pos (by rfl)]
  go_wp2_with fail
  refine Calls.mono (HI.out _ H1.drew) ?_
  rintro r3 w3 ⟨rfl, h3, u3⟩
  have hz3 := u3.size
  (try simp at hz3)
  go_wp2_with fail
  refine hK.out _ _ ?_ (fun hHeld => ?_)
  ·exact ⟨u3.was (memLater ((Below.refl _ _).drew) g1) qs, h3.bg.c0, u3.was (memLater ((Below.refl _ _).drew) x1) qs⟩
  clear hK K
  try simp only [Act.put, qP]
  refine qT 18 ?_
  simp only [Act.put, qP]
  refine wpAnyH_done qk ?_ _
  go_wp2
  go_ret
  refine ⟨rfl, ?_, ?_⟩
  ·exact h3
  ·exact Upd.trans (Upd.drew U1) u3
def escPl (p : Pg) : Nat := max (p.pl - 1) (Nib.beg p.t p.pl)
theorem iEscape (r d : Nat) (p : Pg) (w : World) (h : RdAt w r d p) (hs : p.t.size ≤ 1000) (hl : p.pl ≤ p.t.size) :
  Calls Tryz.prog 304 #[.agg #[.pointer (some ⟨d, 0, none⟩)]] w fun e w' => e = .returned (.int .i64 2) ∧ RdAt w' r d { p with pl := escPl p, mode := 0, anchor := 0 } ∧ Upd [d] w w' := by
 have HL : Hid (∀ ww, RdAt ww r d p → qC 181 #[.pointer (some ⟨d, 0, none⟩)] ww (.agg #[.int .i64 (Nib.beg p.t p.pl), .int .i64 (Nib.fin p.t p.pl)])) := fun ww hh => mLine r d p ww hh hs hl
 have HN : Hid (∀ ww, RdAt ww r d { p with pl := escPl p } → Calls Tryz.prog 136 #[.pointer (some ⟨d, 0, none⟩)] ww fun e w' => e = .returned (.tuple #[]) ∧ RdAt w' r d { p with pl := escPl p, mode := 0, anchor := 0 } ∧ Upd [d] ww w') := fun ww hh => mToNormal r d _ ww hh
 have hbl := Nib.beg_le p.t p.pl
 obtain ⟨MI, hMI, hcase⟩ : ∃ MI : Int, MI = ((escPl p : Nat) : Int) ∧ ((MI = (Nib.beg p.t p.pl : Nat) ∧ (p.pl : Int) - 1 < ((Nib.beg p.t p.pl : Nat) : Int)) ∨ (MI = (p.pl : Int) - 1 ∧ ¬ (p.pl : Int) - 1 < ((Nib.beg p.t p.pl : Nat) : Int))) := ⟨_, rfl, by unfold escPl; omega⟩
 have HS : Hid (∀ ww, RdAt ww r d p → RdAt (ww.setCell ⟨d, 1, none⟩ (.int .i64 MI)) r d { p with pl := escPl p }) := by
  intro ww hh
  rw [hMI]
  exact hh.set_pl _
 have H := h
 have c1 := h.dk.c1
 have dl := h.dk.lt
 have l2 : d < w.heap.size + 1 := by omega
 have hwr : IntKind.i64.wrap ((p.pl : Int) - 1) = (p.pl : Int) - 1 := by rw [IntKind.wrap_i64]; omega
 have hx := ix0 (Nib.beg p.t p.pl) (Nib.fin p.t p.pl)
 generalize hP : ({ p with pl := escPl p, mode := 0, anchor := 0 } : Pg) = p2 at *
 generalize hP3 : ({ p with pl := escPl p } : Pg) = p3 at *
 generalize Nib.beg p.t p.pl = LB at *
 generalize Nib.fin p.t p.pl = LE at *
 clear hP hP3 hMI hbl
 rcases hcase with ⟨hm, hm1⟩ | ⟨hm, hm1⟩
 all_goals
  subst hm
  go_enter Tryz.func304, Tryz.ntmps304
  go_wp2_with fail
  have H1 : RdAt (w.alloc (.cells #[.pointer (some ⟨d, 0, none⟩)] 80)) r d p := H.alloc _
  have g0 : (w.alloc (.cells #[.pointer (some ⟨d, 0, none⟩)] 80)).cell? ⟨w.heap.size, 0, none⟩ = some (.pointer (some ⟨d, 0, none⟩)) := by simp
  have U1 : Upd [d] w (w.alloc (.cells #[.pointer (some ⟨d, 0, none⟩)] 80)) := by
   repeat exact qU
  have k1 : w.heap.size < (w.alloc (.cells #[.pointer (some ⟨d, 0, none⟩)] 80)).heap.size := by simp
  generalize (w.alloc (.cells #[.pointer (some ⟨d, 0, none⟩)] 80)) = W at *
  have e1' : W.drew.cell? ⟨d, 1, none⟩ = some (.int .i64 p.pl) := memLater ((Below.refl _ _).drew) H1.dk.c1
  have hd1 := H1.dk.lt
  refine wp_region_held_drew (S := fun ww => ww.cell? ⟨w.heap.size, 0, none⟩ = some (.pointer (some ⟨d, 0, none⟩))) qk ?_ (fun hHeld => ?_)
  ·exact memLater ((Below.refl _ _).drew) g0
  refine qT 0 ?_
  simp only [Act.put, qP]
  refine qT 1 ?_
  simp only [Act.put, qP]
  refine qT 2 ?_
  simp only [Act.put, qP]
  refine qT 3 ?_
  simp only [Act.put, qP]
  refine qT 4 ?_
  simp only [Act.put, qP]
  refine qT 5 ?_
  simp only [Act.put, qP]
  refine qT 8 ?_
  simp only [Act.put, qP]
  refine qT 9 ?_
  simp only [Act.put, qP]
  refine wpAnyH_ready (rs := [6, 10]) qk qi (AllReadyH.cons rfl (fun K hK => ?_) (AllReadyH.cons rfl (fun K hK => ?_) AllReadyH.nil))
  ·rw [if_pos (by rfl)]
   go_wp2_with fail
   refine hK.out _ _ (memLater ((Below.refl _ _).drew) g0) (fun hHeld => ?_)
   clear hK K
   try simp only [Act.put, qP]
   refine qT 7 ?_
   simp only [Act.put, qP]
   refine qR 10 fun K hK => ?_
   rw [if_pos (by rfl)]
   go_wp2_with fail
   refine (HL.out _ H1.drew).mono ?_
   rintro r1 w1 ⟨rfl, h1⟩
   obtain ⟨hc1, hf1, hz1⟩ := qb h1
   (try simp at hz1)
   go_wp2_with fail
   refine hK.out _ _ ?_ (fun hHeld => ?_)
   ·exact memLater h1 (memLater ((Below.refl _ _).drew) g0)
   clear hK K
   try simp only [Act.put, qP]
   have H2 := (H1.drew).below h1
   have f1 := H2.dk.c1
   have fz := H2.dk.fz
   have fl := H2.dk.lt
   have fg := memLater h1 (memLater ((Below.refl _ _).drew) g0)
   clear hc1 hf1
   refine qT 11 ?_
   simp only [Act.put, qP]
   refine qT 12 ?_
   simp only [Act.put, qP]
   refine qT 13 ?_
   simp only [Act.put, qP]
   refine qT 14 ?_
   simp only [Act.put, qP]
   refine qR 15 fun K hK => ?_
   rw [if_pos (by rfl)]
   go_wp2_with fail
   refine hK.out _ _ ?_ (fun hHeld => ?_)
   ·go_simp
   clear hK K
   try simp only [Act.put, qP]
   refine wpAnyH_done qk ?_ _
   have HS2 := HS.out _ H2
   go_wp2_with fail
   refine Calls.mono (HN.out _ HS2) ?_
   rintro e w2 ⟨rfl, h2, u2⟩
   go_wp2
   go_ret
   refine ⟨rfl, h2, ?_⟩
   exact Upd.trans (Upd.setCell (Upd.below (Upd.drew U1) h1) (Or.inl qi) _) u2
  ·rw [if_pos (by rfl)]
   go_wp2_with fail
   refine (HL.out _ H1.drew).mono ?_
   rintro r1 w2 ⟨rfl, h1⟩
   have hz1 := h1.size
   (try simp at hz1)
   have H2 := (H1.drew).below h1
   have f1 := H2.dk.c1
   have fz := H2.dk.fz
   have fl := H2.dk.lt
   have fg := memLater h1 (memLater ((Below.refl _ _).drew) g0)
   go_wp2_with fail
   refine hK.out _ _ fg (fun hHeld => ?_)
   clear hK K
   try simp only [Act.put, qP]
   refine qT 11 ?_
   simp only [Act.put, qP]
   refine qR 6 fun K hK => ?_
   rw [if_pos (by rfl)]
   go_wp2_with fail
   refine hK.out _ _ ?_ (fun hHeld => ?_)
   ·exact fg
   clear hK K
   try simp only [Act.put, qP]
   refine qT 7 ?_
   simp only [Act.put, qP]
   refine qT 12 ?_
   simp only [Act.put, qP]
   refine qT 13 ?_
   simp only [Act.put, qP]
   refine qT 14 ?_
   simp only [Act.put, qP]
   refine qR 15 fun K hK => ?_
   rw [if_pos (by rfl)]
   go_wp2_with fail
   refine hK.out _ _ ?_ (fun hHeld => ?_)
   ·go_simp
   clear hK K
   try simp only [Act.put, qP]
   refine wpAnyH_done qk ?_ _
   have HS2 := HS.out _ H2
   go_wp2_with fail
   refine Calls.mono (HN.out _ HS2) ?_
   rintro e w3 ⟨rfl, h2, u2⟩
   go_wp2
   go_ret
   refine ⟨rfl, h2, ?_⟩
   exact Upd.trans (Upd.setCell (Upd.below (Upd.drew U1) h1) (Or.inl qi) _) u2
theorem mOn_insert (b r d : Nat) (tv : Value) (dg : ByteArray) (p : Pg) (w : World) (hb : BdAt w b r d tv dg) (h : RdAt w r d p) (hm : p.mode = 1) :
  qC 64 #[.pointer (some ⟨b, 0, none⟩)] w (.iface 80 (.agg #[.pointer (some ⟨d, 0, none⟩)])) := by
 obtain ⟨b0, b1, b2, b3, b4, b5, bz, bl⟩ := hb
 have c0 := h.bg.c0
 have c3 := h.dk.c3
 have h1 : (p.mode == 0) = false := by rw [hm]; decide
 have h2 : (p.mode == 1) = true := by rw [hm]; decide
 clear h hm
 go_enter Tryz.func64, Tryz.ntmps64
 go_wp2
 exact qV (.iface 80 (.agg #[.pointer (some ⟨d, 0, none⟩)])) (by simp [results, Tryz.results64, go_sem]) rfl
theorem bTake_insert (b r d : Nat) (tv : Value) (dg : ByteArray) (p : Pg) (c : UInt8) (w : World) (hb : BdAt w b r d tv dg) (h : RdAt w r d p) (hm : p.mode = 1) (hk : ¬ (c.toNat : Int) = 27) (hbr : b ≠ r) (hbd : b ≠ d) (hs : p.t.size ≤ 1000) (hl : p.pl ≤ p.t.size) :
  Calls Tryz.prog 46 #[.pointer (some ⟨b, 0, none⟩), .int .u8 c.toNat] w fun e w' => e = .returned (.int .i64 1) ∧ RdAt w' r d (insP p c).none' ∧ Upd [r, d] w w' := by
 have HO : Hid (∀ ww, BdAt ww b r d tv dg → RdAt ww r d p → qC 64 #[.pointer (some ⟨b, 0, none⟩)] ww (.iface 80 (.agg #[.pointer (some ⟨d, 0, none⟩)]))) := fun ww h1 h2 => mOn_insert b r d tv dg p ww h1 h2 hm
 have HC : Hid (∀ ww, RdAt ww r d p → Calls Tryz.prog 305 #[.agg #[.pointer (some ⟨d, 0, none⟩)], .int .u8 c.toNat] ww fun e w' => e = .returned (.int .i64 1) ∧ RdAt w' r d (insP p c) ∧ Upd [d] ww w') := fun ww hh => iTake r d p c ww hh hs hl
 generalize insP p c = p2 at *
 have HF : Hid (∀ ww, RdAt ww r d p2 → Calls Tryz.prog 65 #[.pointer (some ⟨r, 1, none⟩)] ww fun e w' => e = .returned (.tuple #[]) ∧ RdAt w' r d p2.none' ∧ Upd [r] ww w') := fun ww hh => mForget r d p2 ww hh
 generalize p2.none' = p3 at *
 have H := h
 generalize (c.toNat : Int) = key at *
 have hk' : (key == 27) = false := by simp [hk]
 have hmt := meth_insert_take ⟨d, 0, none⟩
 clear hm hk h
 go_enter Tryz.func46, Tryz.ntmps46
 go_wp2_with fail
 refine Calls.mono (HO.out _ hb H) ?_
 rintro e w1 ⟨rfl, h1⟩
 go_wp2_with fail
 refine Calls.mono (HC.out _ qRd) ?_
 rintro e w2 ⟨rfl, h2, u2⟩
 have B2 := (hb.below h1).upd u2 (by simp [hbd])
 have e0 := B2.c0
 have g0 := h2.bg.c0
 go_wp2_with fail
 refine Calls.mono (HF.out _ qRd) ?_
 rintro e w3 ⟨rfl, h3, u3⟩
 go_wp2
 go_ret
 refine ⟨rfl, ?_, ?_⟩
 ·repeat exact qRd
 ·refine Upd.trans (S := [r, d]) ?_ (Upd.mono u3 qi)
  refine Upd.trans (S := [r, d]) ?_ (Upd.mono u2 qi)
  exact Upd.of_below h1
theorem bTake_insert_esc (b r d : Nat) (tv : Value) (dg : ByteArray) (p : Pg) (w : World) (hb : BdAt w b r d tv dg) (h : RdAt w r d p) (hm : p.mode = 1) (hs : p.t.size ≤ 1000) (hl : p.pl ≤ p.t.size) :
  Calls Tryz.prog 46 #[.pointer (some ⟨b, 0, none⟩), .int .u8 27] w fun e w' => e = .returned (.int .i64 2) ∧ RdAt w' r d { p with pl := escPl p, mode := 0, anchor := 0 } ∧ Upd [r, d] w w' := by
 have HO : Hid (∀ ww, BdAt ww b r d tv dg → RdAt ww r d p → qC 64 #[.pointer (some ⟨b, 0, none⟩)] ww (.iface 80 (.agg #[.pointer (some ⟨d, 0, none⟩)]))) := fun ww h1 h2 => mOn_insert b r d tv dg p ww h1 h2 hm
 have HE : Hid (∀ ww, RdAt ww r d p → Calls Tryz.prog 304 #[.agg #[.pointer (some ⟨d, 0, none⟩)]] ww fun e w' => e = .returned (.int .i64 2) ∧ RdAt w' r d { p with pl := escPl p, mode := 0, anchor := 0 } ∧ Upd [d] ww w') := fun ww hh => iEscape r d p ww hh hs hl
 generalize hp2 : ({ p with pl := escPl p, mode := 0, anchor := 0 } : Pg) = p2 at *
 have H := h
 have hmt := meth_insert_escape ⟨d, 0, none⟩
 clear hm h hp2
 go_enter Tryz.func46, Tryz.ntmps46
 go_wp2_with fail
 refine Calls.mono (HO.out _ hb H) ?_
 rintro e w1 ⟨rfl, h1⟩
 go_wp2_with fail
 refine Calls.mono (HE.out _ qRd) ?_
 rintro e w2 ⟨rfl, h2, u2⟩
 go_wp2
 go_ret
 refine ⟨rfl, ?_, ?_⟩
 ·repeat exact qRd
 ·refine Upd.trans (S := [r, d]) ?_ (Upd.mono u2 qi)
  exact Upd.of_below h1
theorem bTake_again (b r d : Nat) (tv : Value) (dg : ByteArray) (p : Pg) (key : Int) (A C : World → Prop) (D : Int → World → Prop) (w : World) (hb : BdAt w b r d tv dg) (hA : A w) (fA : Firm A) (fC : Firm C) (hr : HasR A r d p) (hm : p.mode = 0) (hk : ¬ key = 27)
  (HC : Hid (∀ ww, A ww → qC 137 #[.agg #[.pointer (some ⟨r, 0, none⟩)], .int .u8 key] ww (.int .i64 3)))
  (HF : Hid (∀ ww, A ww → Calls Tryz.prog 65 #[.pointer (some ⟨r, 1, none⟩)] ww fun e w' => e = .returned (.tuple #[]) ∧ C w'))
  (HR : Hid (∀ ww, C ww → Calls Tryz.prog 66 #[.pointer (some ⟨b, 0, none⟩)] ww fun e w' => ∃ O : Int, e = .returned (.int .i64 O) ∧ D O w')) :
  Calls Tryz.prog 46 #[.pointer (some ⟨b, 0, none⟩), .int .u8 key] w fun e w' => ∃ O : Int, e = .returned (.int .i64 O) ∧ D O w' := by
 have HO : Hid (∀ ww, BdAt ww b r d tv dg → RdAt ww r d p → qC 64 #[.pointer (some ⟨b, 0, none⟩)] ww (.iface 77 (.agg #[.pointer (some ⟨r, 0, none⟩)]))) := fun ww h1 h2 => mOn_normal b r d tv dg p ww h1 h2 hm
 have H := hr w hA
 have hk' : (key == 27) = false := by simp [hk]
 have hmt := meth_normal_take ⟨r, 0, none⟩
 clear hm hk
 go_enter Tryz.func46, Tryz.ntmps46
 go_wp2_with fail
 refine Calls.mono (HO.out _ hb H) ?_
 rintro e w1 ⟨rfl, h1⟩
 go_wp2_with fail
 refine Calls.mono (HC.out _ (fA _ _ hA qB)) ?_
 rintro e w2 ⟨rfl, h2⟩
 have B2 := (hb.below h1).below h2
 have R2 := (H.below h1).below h2
 have e0 := B2.c0
 have g0 := R2.bg.c0
 have gl := R2.bg.lt
 have A2 : A w2 := fA _ _ (fA _ _ hA h1) h2
 go_wp2_with fail
 refine Calls.mono (HF.out _ A2) ?_
 rintro e w3 ⟨rfl, h3⟩
 have HC3 : Hid (C w3) := h3
 clear h3
 go_wp2_with fail
 refine Calls.mono (HR.out _ HC3.out) ?_
 rintro e w4 ⟨O, rfl, h4⟩
 have HD4 : Hid (D O w4) := h4
 clear h4
 go_wp2
 go_ret
 exact ⟨O, rfl, HD4.out⟩
theorem bRepeat_none (b r d : Nat) (tv : Value) (w : World) (hb : BdAt w b r d tv ⟨#[]⟩) :
  qC 66 #[.pointer (some ⟨b, 0, none⟩)] w (.int .i64 4) := by
 obtain ⟨b0, b1, b2, b3, b4, b5, bz, bl⟩ := hb
 go_enter Tryz.func66, Tryz.ntmps66
 go_wp2
 go_ret
 exact ⟨rfl, Below.refl _ _⟩
theorem bRepeat (b r d : Nat) (dg : ByteArray) (I : Nat → World → Prop) (F : World → Prop) (w : World) (h : I 0 w) (hs : dg.size ≤ 17592186044416) (hne : 0 < dg.size)
  (HB : ∀ k ww, I k ww → ∃ tv, BdAt ww b r d tv dg)
  (HK : ∀ k, (hk : k < dg.size) → ∀ ww, I k ww → Calls Tryz.prog 46 #[.pointer (some ⟨b, 0, none⟩), .int .u8 (dg[k]'hk).toNat] ww fun e w' => ∃ O : Int, e = .returned (.int .i64 O) ∧ (O = 4 → F w') ∧ (¬ O = 4 → I (k + 1) w')) :
  Calls Tryz.prog 66 #[.pointer (some ⟨b, 0, none⟩)] w fun e w' => (e = .returned (.int .i64 4) ∧ F w') ∨ (e = .returned (.int .i64 1) ∧ I dg.size w') := by
 have HK' : Hid (∀ k, (hk : k < dg.size) → ∀ ww, I k ww → Calls Tryz.prog 46 #[.pointer (some ⟨b, 0, none⟩), .int .u8 (dg[k]'hk).toNat] ww fun e w' => ∃ O : Int, e = .returned (.int .i64 O) ∧ (O = 4 → F w') ∧ (¬ O = 4 → I (k + 1) w')) := HK
 have HB' : Hid (∀ k ww, I k ww → ∃ tv, BdAt ww b r d tv dg) := HB
 clear HK HB
 obtain ⟨tv, B0⟩ := HB'.out 0 w h
 have b2 := B0.c2
 have bl := B0.lt
 have hE : (dg.toList == []) = false := by
  rw [beq_eq_false_iff_ne, ByteArray.toList_eq]
  intro e
  have : dg.data.toList.length = 0 := by rw [e]; rfl
  have h2 : dg.data.toList.length = dg.size := by simp
  omega
 clear hne
 go_enter Tryz.func66, Tryz.ntmps66
 go_wp2
 go_loopw [16] (fun i wr => ∃ k : Nat, k ≤ dg.size ∧ i = .int .i64 k ∧ I k wr) (fun i _ => dg.size - (intOf i).toNat)
 case atStart => exact ⟨0, Nat.zero_le _, rfl, h⟩
 case round =>
  clear B0 b2 bl h
  obtain ⟨k, hk, rfl, h1⟩ := hrel
  obtain ⟨tv, B1⟩ := HB'.out k wr h1
  have b2 := B1.c2
  have bl := B1.lt
  by_cases hlt : k < dg.size
  ·have HC := HK'.out k hlt _ h1
   go_wp2_with fail
   refine Calls.mono HC ?_
   rintro e w1 ⟨O, rfl, hF, hI⟩
   clear h1 HC
   by_cases hO : O = 4
   ·have hO' : (O == 4) = true := by simp [hO]
    have HF : Hid (F w1) := hF hO
    clear hO hF hI
    go_wp2
    go_ret
    exact Or.inl ⟨rfl, HF.out⟩
   ·have hO' : (O == 4) = false := by simp [hO]
    have HI : Hid (I (k + 1) w1) := hI hO
    clear hO hF hI
    go_wp2
    go_round
    case rel => exact ⟨k + 1, by omega, by go_num, HI.out⟩
    case measure => simp [intOf] <;> omega
  ·have hkn : k = dg.size := by omega
   subst hkn
   have HI : Hid (I dg.size wr) := h1
   clear h1
   go_wp2
   go_ret
   exact Or.inr ⟨rfl, HI.out⟩
end Go.Proofs.YtlendfhehhacpaaGreat
