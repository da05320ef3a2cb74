/- A part. -/
import Derived.Test.YtlendfhehhacpaaGreatP27
set_option linter.unusedVariables false
set_option linter.unusedSimpArgs false
set_option maxRecDepth 100000
set_option maxHeartbeats 8000000
namespace Go.Proofs.YtlendfhehhacpaaGreat
open Go.RowKit
theorem mDo_change (r d m : Nat) (p : Pg) (i j : Nat) (l : Bool) (t2 : ByteArray) (q : Nat) (f : Int → Value) (w : World) (h : RdAt w r d p) (hg : RgAt w m f) (hm : p.regs = .map (some m)) (hmr : m ≠ r) (hmd : m ≠ d) (hs : p.t.size ≤ 1000) (hs2 : t2.size ≤ 1000) (hij : i ≤ j) (hj : j ≤ p.t.size)
  (HD : qH 174 #[.int .u8 99, .string p.t, .agg #[.int .i64 i, .int .i64 j, .bool l], .int .i64 p.pl] (.tuple #[.string t2, .int .i64 q])) :
  Calls Tryz.prog 146 #[.pointer (some ⟨r, 0, none⟩), .int .u8 99, .agg #[.int .i64 i, .int .i64 j, .bool l]] w fun e w' => e = .returned (.int .i64 1) ∧ RdAt w' r d { p with t := t2, mode := 1, anchor := 0, pl := q } ∧ RgAt w' m (rgW f p.reg (tkn p.t i j l) l) ∧ Upd [d, m] w w' := by
 have HN : qH 172 #[.agg #[.int .i64 i, .int .i64 j, .bool l]] (.bool ((i : Int) == j && !l)) := fun ww => tNothing_any i j l ww
 generalize ((i : Int) == j && !l) = NB at *
 have HT : qH 173 #[.string p.t, .agg #[.int .i64 i, .int .i64 j, .bool l]] (.agg #[.string (tkn p.t i j l), .bool l]) := fun ww => mTaken_piece p.t i j l ww hs hij hj
 generalize tkn p.t i j l = X at *
 have HBc : Hid (∀ ww, RdAt ww r d p → Calls Tryz.prog 175 #[.pointer (some ⟨d, 0, none⟩), .string t2] ww fun e w' => e = .returned (.bool true) ∧ RdAt w' r d { p with t := t2 } ∧ Upd [d] ww w') := fun ww hh => mBecome r d p t2 ww hh hs2
 have hml := hg.lt
 have HWr : Hid (∀ ww, RgAt ww m f → Calls Tryz.prog 177 #[.map (some m), .int .u8 p.reg, .agg #[.string X, .bool l]] ww fun e w' => e = .returned (.tuple #[]) ∧ RgAt w' m (rgW f p.reg X l) ∧ Upd [m] ww w') := fun ww hh => rWrite_any m p.reg X l f ww hh
 generalize rgW f p.reg X l = f2 at *
 have HWs : qH 176 #[.int .u8 99] (.bool true) := fun ww => vWrites_any _ ww
 have HIa : Hid (∀ ww, RdAt ww r d { p with t := t2 } → Calls Tryz.prog 178 #[.pointer (some ⟨d, 0, none⟩), .int .i64 q] ww fun e w' => e = .returned (.int .i64 1) ∧ RdAt w' r d { p with t := t2, mode := 1, anchor := 0, pl := q } ∧ Upd [d] ww w') := fun ww hh => mInsertAt r d { p with t := t2 } q ww hh
 generalize hP6 : ({ p with t := t2, mode := 1, anchor := 0, pl := q } : Pg) = P6 at *
 generalize hP4 : ({ p with t := t2 } : Pg) = P4 at *
 have q4 : P4.regs = .map (some m) := by rw [← hP4]; exact hm
 have q4r : P4.reg = p.reg := by rw [← hP4]
 clear hP4 hP6
 have H := h
 obtain ⟨c0, c1, c2, c3, c4, c5, c6, c7, c8, c9, fz, lt⟩ := h.dk
 obtain ⟨b0, b1, b2, b3, b4, b5, bz, bl⟩ := h.bg
 clear c2 c3 c4 c5 c6 c7 c8 c9 b1 b2 b3 b4 b5 h
 have l1 : r < w.heap.size + 1 := by omega
 have l2 : d < w.heap.size + 1 := by omega
 have l3 : ¬ w.heap.size = d := by omega
 have l4 : ¬ w.heap.size = r := by omega
 cases NB
 all_goals
  go_enter Tryz.func146, Tryz.ntmps146
  go_wp2_with fail
  refine (HN.out _).mono ?_
  rintro e w1 ⟨rfl, h1⟩
  obtain ⟨hc1, hf1, hz1⟩ := qb h1
  try simp at hz1
  have d0 : w1.cell? ⟨d, 0, none⟩ = some (.string p.t) := by rw [hc1 _ _ qs]; go_simp
  have d1 : w1.cell? ⟨d, 1, none⟩ = some (.int .i64 p.pl) := by rw [hc1 _ _ qs]; go_simp
  have r0 : w1.cell? ⟨r, 0, none⟩ = some (.pointer (some ⟨d, 0, none⟩)) := by rw [hc1 _ _ qs]; go_simp
  have p0 : w1.cell? ⟨w.heap.size, 0, none⟩ = some (.int .i64 i) := by rw [hc1 _ _ qi]; simp
  have p1 : w1.cell? ⟨w.heap.size, 1, none⟩ = some (.int .i64 j) := by rw [hc1 _ _ qi]; simp
  have p2 : w1.cell? ⟨w.heap.size, 2, none⟩ = some (.bool l) := by rw [hc1 _ _ qi]; simp
  have k1 : r < w1.heap.size := by omega
  have k2 : d < w1.heap.size := by omega
  have k3 : w.heap.size < w1.heap.size := by omega
  clear hc1 hf1
  go_wp2_with fail
  go_region_held3 (fun ww => ww.cell? ⟨r, 0, none⟩ = some (.pointer (some ⟨d, 0, none⟩)) ∧ ww.cell? ⟨d, 0, none⟩ = some (.string p.t) ∧ ww.cell? ⟨w.heap.size, 0, none⟩ = some (.int .i64 i) ∧ ww.cell? ⟨w.heap.size, 1, none⟩ = some (.int .i64 j) ∧ ww.cell? ⟨w.heap.size, 2, none⟩ = some (.bool l)) (exact qK) (first | (go_at_call 173; with_reducible refine Calls.mono (HT.out (w1.alloc (.cells #[.string ⟨#[]⟩, .bool false] 99)).drew) ?_; rintro r2 w2 ⟨rfl, h2⟩; obtain ⟨hc2, hf2, hz2⟩ := qb h2; simp at hz2; have hn0 : w2.cell? ⟨w1.heap.size, 0, none⟩ = some (.string ⟨#[]⟩) := (hc2 (w1.heap.size) 0 qi).trans qi; have hn1 : w2.cell? ⟨w1.heap.size, 1, none⟩ = some (.bool false) := (hc2 (w1.heap.size) 1 qi).trans qi; have hq2 : ∀ o, w2.frozen? ⟨w1.heap.size, o, none⟩ = false := (fun o => (hf2 (w1.heap.size) o qi).trans qi); clear hc2 hf2) | (go_at_call 173; with_reducible refine Calls.mono (HT.out w1.drew) ?_; rintro r2 w2 ⟨rfl, h2⟩; have hz2 := h2.size; simp at hz2))
  rename_i hHeld
  have E : DoAt w (w2.alloc (.cells #[.string X, .bool l] 99)) r d m w.heap.size w2.heap.size p f i j l X := by
   exact qt32
  clear hHeld h1 h2 hz2 hg H d0 d1 r0 p0 p1 p2
  generalize (w2.alloc (.cells #[.string X, .bool l] 99)) = W at *
  generalize w2.heap.size = k at *
  rotate_left
  rename_i hHeld
  have E : DoAt w ((w2.setCell ⟨w1.heap.size, 0, none⟩ (.string X)).setCell ⟨w1.heap.size, 1, none⟩ (.bool l)) r d m w.heap.size w1.heap.size p f i j l X := by
   exact qt27
  clear hHeld h1 h2 hz2 hg H d0 d1 r0 p0 p1 p2
  generalize ((w2.setCell ⟨w1.heap.size, 0, none⟩ (.string X)).setCell ⟨w1.heap.size, 1, none⟩ (.bool l)) = W at *
  generalize w1.heap.size = k at *
  rotate_left
  all_goals
   obtain ⟨rd, rg, p0, p1, p2, x0, x1, lb, lk, up, lw⟩ := E
   have H := rd
   have r0 := rd.bg.c0
   have d0 := rd.dk.c0
   have d1 := rd.dk.c1
   have hlr := rd.bg.lt
   have hld := rd.dk.lt
   go_wp2_with fail
   go_region_held3 (fun ww => ww.cell? ⟨r, 0, none⟩ = some (.pointer (some ⟨d, 0, none⟩)) ∧ ww.cell? ⟨d, 0, none⟩ = some (.string p.t) ∧ ww.cell? ⟨d, 1, none⟩ = some (.int .i64 p.pl) ∧ ww.cell? ⟨w.heap.size, 0, none⟩ = some (.int .i64 i) ∧ ww.cell? ⟨w.heap.size, 1, none⟩ = some (.int .i64 j) ∧ ww.cell? ⟨w.heap.size, 2, none⟩ = some (.bool l)) (exact qK) ((go_at_call 174; refine Calls.mono (HD.out _) ?_; rintro r3 w3 ⟨rfl, h3⟩; have hz3 := h3.size; (try simp at hz3); (try have ⟨hl3_0, hk3_0⟩ := qL d w3.heap.size); (try have ⟨hl3_1, hk3_1⟩ := qL r w3.heap.size); (try have ⟨hl3_2, hk3_2⟩ := qL w.heap.size w3.heap.size)))
   have H3 := (rd.drew).below h3
   have G3 := (rg.drew).below h3
   have y0 := memLater h3 (memLater ((Below.refl _ _).drew) x0)
   have y1 := memLater h3 (memLater ((Below.refl _ _).drew) x1)
   have up3 : Below w.heap.size w w3 := by
    repeat exact qB
   clear rd rg x0 x1 up h3 H r0 d0 d1
   go_wp2_with fail
   refine Calls.mono (HBc.out _ H3) ?_
   rintro e4 w4 ⟨rfl, H4, u4⟩
   have G4 : RgAt w4 m f := G3.of_block (u4.block m G3.lt (by simp; exact hmd))
   have z0 := u4.was y0 qs
   have z1 := u4.was y1 qs
   go_wp2_with fail
   refine Calls.mono (HWs.out _) ?_
   rintro e5 w5 ⟨rfl, h5⟩
   have H5 := H4.below h5
   have G5 := G4.below h5
   have x0 := memLater h5 z0
   have x1 := memLater h5 z1
   have r0 := H5.bg.c0
   have r1 := H5.bg.c1
   have d4 := H5.dk.c4
   rw [q4] at d4
   rw [q4r] at r1
   go_wp2_with fail
   go_region_held3 (fun ww => ww.cell? ⟨r, 0, none⟩ = some (.pointer (some ⟨d, 0, none⟩)) ∧ ww.cell? ⟨r, 1, none⟩ = some (.int .u8 p.reg) ∧ ww.cell? ⟨d, 4, none⟩ = some (.map (some m)) ∧ ww.cell? ⟨k, 0, none⟩ = some (.string X) ∧ ww.cell? ⟨k, 1, none⟩ = some (.bool l)) (exact qK) ((go_at_call 177; with_reducible refine Calls.mono (HWr.out _ (RgAt.drew G5)) ?_; rintro e6 w6 ⟨rfl, G6, u6⟩; have a0 := u6.was (memLater ((Below.refl _ _).drew) r0) (by simp; exact Ne.symm hmr); have a1 := u6.was (memLater ((Below.refl _ _).drew) r1) (by simp; exact Ne.symm hmr); have a2 := u6.was (memLater ((Below.refl _ _).drew) d4) (by simp; exact Ne.symm hmd); have a3 := u6.was (memLater ((Below.refl _ _).drew) x0) qs; have a4 := u6.was (memLater ((Below.refl _ _).drew) x1) qs))
   have H6 : RdAt w6 r d P4 := (H5.drew).upd u6 (by simp; exact Ne.symm hmr) (by simp; exact Ne.symm hmd)
   have U6 : Upd [d, m] w w6 := by
    refine Upd.trans (Upd.drew (Upd.below (Upd.trans (Upd.of_below up3) (Upd.mono u4 qi)) h5)) (Upd.mono u6 qi)
   clear G5 r0 r1 d4 x0 x1 z0 z1 y0 y1 G4 G3 H3 H4 H5 u4 h5 u6 up3
   have r6 := H6.bg.c0
   go_wp2_with fail
   refine Calls.mono (HIa.out _ H6) ?_
   rintro e7 w7 ⟨rfl, H7, u7⟩
   have G7 : RgAt w7 m f2 := G6.of_block (u7.block m G6.lt (by simp; exact hmd))
   go_wp2
   go_ret
   exact ⟨rfl, H7, G7, U6.trans (u7.mono qi)⟩
theorem mBegin_i (r d : Nat) (p : Pg) (w : World) (h : RdAt w r d p) (hs : p.t.size ≤ 1000) (hl : p.pl ≤ p.t.size) :
  Calls Tryz.prog 152 #[.agg #[.pointer (some ⟨r, 0, none⟩)], .int .u8 105] w fun e w' => e = .returned (.int .i64 1) ∧ RdAt w' r d { p with mode := 1, anchor := 0, pl := p.pl } ∧ Upd [d] w w' := by
 have HL : Hid (∀ ww, RdAt ww r d p → qC 181 #[.pointer (some ⟨d, 0, none⟩)] ww (.agg #[.int .i64 (Nib.beg p.t p.pl), .int .i64 (Nib.fin p.t p.pl)])) := fun ww hh => mLine r d p ww hh hs hl
 have HI : Hid (∀ ww, RdAt ww r d p → Calls Tryz.prog 178 #[.pointer (some ⟨d, 0, none⟩), .int .i64 p.pl] ww fun e w' => e = .returned (.int .i64 1) ∧ RdAt w' r d { p with mode := 1, anchor := 0, pl := p.pl } ∧ Upd [d] ww w') := fun ww hh => mInsertAt r d p p.pl ww hh
 have H := h
 have b0 := h.bg.c0
 have bl := h.bg.lt
 have c1 := h.dk.c1
 have dl := h.dk.lt
 have l1 : r < w.heap.size + 1 := by omega
 have l2 : d < w.heap.size + 1 := by omega
 generalize hP : ({ p with mode := 1, anchor := 0, pl := p.pl } : Pg) = p2 at *
 generalize Nib.beg p.t p.pl = LB at *
 generalize Nib.fin p.t p.pl = LE at *
 have q2 : p2.pl = p.pl := by rw [← hP]
 clear hP
 go_enter Tryz.func152, Tryz.ntmps152
 go_wp2_with fail
 refine Calls.mono (HL.out _ qRd) ?_
 rintro e w1 ⟨rfl, h1⟩
 have hz1 := h1.size
 (try simp at hz1)
 have g0 : w1.cell? ⟨w.heap.size, 0, none⟩ = some (.pointer (some ⟨r, 0, none⟩)) := memLater h1 qi
 go_wp2_with fail
 go_region_held3 (fun ww => ww.cell? ⟨w.heap.size, 0, none⟩ = some (.pointer (some ⟨r, 0, none⟩)) ∧ ww.cell? ⟨r, 0, none⟩ = some (.pointer (some ⟨d, 0, none⟩)) ∧ ww.cell? ⟨d, 1, none⟩ = some (.int .i64 p.pl)) (exact qK) ((go_at_call 178; refine Calls.mono (HI.out _ qRd) ?_; rintro r3 w3 ⟨rfl, h3, u3⟩; have hz3 := u3.size; (try simp at hz3); have a0 := h3.bg.c0; have a1 := h3.dk.c1; rw [q2] at a1; have a2 := u3.was (b := w.heap.size) (o := 0) (v := .pointer (some ⟨r, 0, none⟩)) qM qs))
 exact qt16
theorem mBegin_A (r d : Nat) (p : Pg) (w : World) (h : RdAt w r d p) (hs : p.t.size ≤ 1000) (hl : p.pl ≤ p.t.size) :
  Calls Tryz.prog 152 #[.agg #[.pointer (some ⟨r, 0, none⟩)], .int .u8 65] w fun e w' => e = .returned (.int .i64 1) ∧ RdAt w' r d { p with mode := 1, anchor := 0, pl := Nib.fin p.t p.pl } ∧ Upd [d] w w' := by
 have HL : Hid (∀ ww, RdAt ww r d p → qC 181 #[.pointer (some ⟨d, 0, none⟩)] ww (.agg #[.int .i64 (Nib.beg p.t p.pl), .int .i64 (Nib.fin p.t p.pl)])) := fun ww hh => mLine r d p ww hh hs hl
 have HI : Hid (∀ ww, RdAt ww r d p → Calls Tryz.prog 178 #[.pointer (some ⟨d, 0, none⟩), .int .i64 ((Nib.fin p.t p.pl : Nat) : Int)] ww fun e w' => e = .returned (.int .i64 1) ∧ RdAt w' r d { p with mode := 1, anchor := 0, pl := Nib.fin p.t p.pl } ∧ Upd [d] ww w') := fun ww hh => mInsertAt r d p (Nib.fin p.t p.pl) ww hh
 have H := h
 have b0 := h.bg.c0
 have bl := h.bg.lt
 have c1 := h.dk.c1
 have dl := h.dk.lt
 have l1 : r < w.heap.size + 1 := by omega
 have l2 : d < w.heap.size + 1 := by omega
 generalize hP : ({ p with mode := 1, anchor := 0, pl := Nib.fin p.t p.pl } : Pg) = p2 at *
 generalize Nib.beg p.t p.pl = LB at *
 generalize Nib.fin p.t p.pl = LE at *
 clear hP
 go_enter Tryz.func152, Tryz.ntmps152
 go_wp2_with fail
 refine Calls.mono (HL.out _ qRd) ?_
 rintro e w1 ⟨rfl, h1⟩
 have hz1 := h1.size
 (try simp at hz1)
 have g0 : w1.cell? ⟨w.heap.size, 0, none⟩ = some (.pointer (some ⟨r, 0, none⟩)) := memLater h1 qi
 have x0 : (w1.alloc (.cells #[.int .i64 LB, .int .i64 LE] 128)).cell? ⟨w1.heap.size, 0, none⟩ = some (.int .i64 LB) := by simp
 have x1 : (w1.alloc (.cells #[.int .i64 LB, .int .i64 LE] 128)).cell? ⟨w1.heap.size, 1, none⟩ = some (.int .i64 LE) := by simp
 go_wp2_with fail
 go_region_held3 (fun ww => ww.cell? ⟨w.heap.size, 0, none⟩ = some (.pointer (some ⟨r, 0, none⟩)) ∧ ww.cell? ⟨r, 0, none⟩ = some (.pointer (some ⟨d, 0, none⟩)) ∧ ww.cell? ⟨w1.heap.size, 0, none⟩ = some (.int .i64 LB) ∧ ww.cell? ⟨w1.heap.size, 1, none⟩ = some (.int .i64 LE)) (exact qK) ((go_at_call 178; refine Calls.mono (HI.out _ qRd) ?_; rintro r3 w3 ⟨rfl, h3, u3⟩; have hz3 := u3.size; (try simp at hz3); have a0 := h3.bg.c0; have b1 := u3.was (b := w1.heap.size) (o := 0) (v := .int .i64 LB) (memLater ((Below.refl _ _).drew) x0) qs; have b2 := u3.was (b := w1.heap.size) (o := 1) (v := .int .i64 LE) (memLater ((Below.refl _ _).drew) x1) qs; have a2 := u3.was (b := w.heap.size) (o := 0) (v := .pointer (some ⟨r, 0, none⟩)) qM qs))
 exact qt16
theorem mBegin_I (r d : Nat) (p : Pg) (w : World) (h : RdAt w r d p) (hs : p.t.size ≤ 1000) (hl : p.pl ≤ p.t.size) :
  Calls Tryz.prog 152 #[.agg #[.pointer (some ⟨r, 0, none⟩)], .int .u8 73] w fun e w' => e = .returned (.int .i64 1) ∧ RdAt w' r d { p with mode := 1, anchor := 0, pl := Nib.ind p.t p.pl } ∧ Upd [d] w w' := by
 have HL : Hid (∀ ww, RdAt ww r d p → qC 181 #[.pointer (some ⟨d, 0, none⟩)] ww (.agg #[.int .i64 (Nib.beg p.t p.pl), .int .i64 (Nib.fin p.t p.pl)])) := fun ww hh => mLine r d p ww hh hs hl
 have HI : Hid (∀ ww, RdAt ww r d p → Calls Tryz.prog 178 #[.pointer (some ⟨d, 0, none⟩), .int .i64 ((Nib.ind p.t p.pl : Nat) : Int)] ww fun e w' => e = .returned (.int .i64 1) ∧ RdAt w' r d { p with mode := 1, anchor := 0, pl := Nib.ind p.t p.pl } ∧ Upd [d] ww w') := fun ww hh => mInsertAt r d p (Nib.ind p.t p.pl) ww hh
 have HN : qH 187 #[.string p.t, .agg #[.int .i64 (Nib.beg p.t p.pl), .int .i64 (Nib.fin p.t p.pl)]] (.agg #[.int .i64 (Nib.beg p.t p.pl), .int .i64 (Nib.ind p.t p.pl)]) := fun ww => tIndent_any p.t _ _ p.pl ww hs hl rfl rfl
 have c0 := h.dk.c0
 have H := h
 have b0 := h.bg.c0
 have bl := h.bg.lt
 have c1 := h.dk.c1
 have dl := h.dk.lt
 have l1 : r < w.heap.size + 1 := by omega
 have l2 : d < w.heap.size + 1 := by omega
 generalize hP : ({ p with mode := 1, anchor := 0, pl := Nib.ind p.t p.pl } : Pg) = p2 at *
 generalize Nib.beg p.t p.pl = LB at *
 generalize Nib.fin p.t p.pl = LE at *
 generalize Nib.ind p.t p.pl = LI at *
 have hx := ix1 LB LI
 have q2 : p2.t = p.t := by rw [← hP]
 clear hP
 go_enter Tryz.func152, Tryz.ntmps152
 go_wp2_with fail
 refine Calls.mono (HL.out _ qRd) ?_
 rintro e w1 ⟨rfl, h1⟩
 have hz1 := h1.size
 (try simp at hz1)
 have g0 : w1.cell? ⟨w.heap.size, 0, none⟩ = some (.pointer (some ⟨r, 0, none⟩)) := memLater h1 qi
 have x0 : (w1.alloc (.cells #[.int .i64 LB, .int .i64 LE] 128)).cell? ⟨w1.heap.size, 0, none⟩ = some (.int .i64 LB) := by simp
 have x1 : (w1.alloc (.cells #[.int .i64 LB, .int .i64 LE] 128)).cell? ⟨w1.heap.size, 1, none⟩ = some (.int .i64 LE) := by simp
 go_wp2_with fail
 go_region_held3 (fun ww => ww.cell? ⟨w.heap.size, 0, none⟩ = some (.pointer (some ⟨r, 0, none⟩)) ∧ ww.cell? ⟨r, 0, none⟩ = some (.pointer (some ⟨d, 0, none⟩)) ∧ ww.cell? ⟨d, 0, none⟩ = some (.string p.t) ∧ ww.cell? ⟨w1.heap.size, 0, none⟩ = some (.int .i64 LB) ∧ ww.cell? ⟨w1.heap.size, 1, none⟩ = some (.int .i64 LE)) (exact qK) (first | (go_at_call 187; refine Calls.mono (HN.out _) ?_; rintro r2 w2 ⟨rfl, h2⟩; have hz2 := h2.size; (try simp at hz2); (try have ⟨hl2_0, hk2_0⟩ := qL d w2.heap.size); (try have ⟨hl2_1, hk2_1⟩ := qL r w2.heap.size); (try have ⟨hl2_2, hk2_2⟩ := qL w.heap.size w2.heap.size); (try have ⟨hl2_3, hk2_3⟩ := qL w1.heap.size w2.heap.size)) | (go_at_call 178; refine Calls.mono (HI.out _ qRd) ?_; rintro r3 w3 ⟨rfl, h3, u3⟩; have hz3 := u3.size; (try simp at hz3); have a0 := h3.bg.c0; have a1 := h3.dk.c0; rw [q2] at a1; have b1 := u3.was (b := w1.heap.size) (o := 0) (v := .int .i64 LB) (memLater h2 (memLater ((Below.refl _ _).drew) x0)) qs; have b2 := u3.was (b := w1.heap.size) (o := 1) (v := .int .i64 LE) (memLater h2 (memLater ((Below.refl _ _).drew) x1)) qs; have a2 := u3.was (b := w.heap.size) (o := 0) (v := .pointer (some ⟨r, 0, none⟩)) qM qs))
 exact qt16
end Go.Proofs.YtlendfhehhacpaaGreat
