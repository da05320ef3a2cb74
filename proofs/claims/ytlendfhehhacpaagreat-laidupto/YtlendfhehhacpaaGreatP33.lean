/- A part. -/
import Derived.Test.YtlendfhehhacpaaGreatP28
import Derived.Test.YtlendfhehhacpaaGreatP17
set_option linter.unusedVariables false
set_option linter.unusedSimpArgs false
set_option maxRecDepth 100000
set_option maxHeartbeats 8000000
namespace Go.Proofs.YtlendfhehhacpaaGreat
open Go.RowKit
theorem mDo_plain (v : Int) (r d m : Nat) (p : Pg) (i j : Nat) (l : Bool) (t2 : ByteArray) (q : Nat) (f : Int → Value) (w : World) (h : RdAt w r d p) (hg : RgAt w m f) (hm : p.regs = .map (some m)) (hmr : m ≠ r) (hmd : m ≠ d) (hs : p.t.size ≤ 1000) (hs2 : t2.size ≤ 1000) (hij : i ≤ j) (hj : j ≤ p.t.size) (hne : ¬ (i = j ∧ l = false)) (hq : q ≤ t2.size) (hv : v = 62 ∨ v = 60 ∨ v = 117 ∨ v = 85)
  (HD : qH 174 #[.int .u8 v, .string p.t, .agg #[.int .i64 i, .int .i64 j, .bool l], .int .i64 p.pl] (.tuple #[.string t2, .int .i64 q])) :
  Calls Tryz.prog 146 #[.pointer (some ⟨r, 0, none⟩), .int .u8 v, .agg #[.int .i64 i, .int .i64 j, .bool l]] w fun e w' => e = .returned (.int .i64 2) ∧ RdAt w' r d { p with t := t2, mode := 0, anchor := 0, pl := Nib.clm t2 q } ∧ RgAt w' m f ∧ Upd [d, m] w w' := by
 have HN : qH 172 #[.agg #[.int .i64 i, .int .i64 j, .bool l]] (.bool false) := by
  exact qt59
 have HT : qH 173 #[.string p.t, .agg #[.int .i64 i, .int .i64 j, .bool l]] (.agg #[.string (tkn p.t i j l), .bool l]) := fun ww => mTaken_piece p.t i j l ww hs hij hj
 generalize tkn p.t i j l = X at *
 have HBc : Hid (∀ ww, RdAt ww r d p → Calls Tryz.prog 175 #[.pointer (some ⟨d, 0, none⟩), .string t2] ww fun e w' => e = .returned (.bool true) ∧ RdAt w' r d { p with t := t2 } ∧ Upd [d] ww w') := fun ww hh => mBecome r d p t2 ww hh hs2
 have hml := hg.lt
 have HWs : qH 176 #[.int .u8 v] (.bool false) := fun ww => by
  rcases hv with hv | hv | hv | hv <;> subst hv <;> exact vWrites_any _ ww
 have HTN : Hid (∀ ww, RdAt ww r d { p with t := t2 } → Calls Tryz.prog 136 #[.pointer (some ⟨d, 0, none⟩)] ww fun e w' => e = .returned (.tuple #[]) ∧ RdAt w' r d { p with t := t2, mode := 0, anchor := 0 } ∧ Upd [d] ww w') := fun ww hh => mToNormal r d { p with t := t2 } ww hh
 have HMv : Hid (∀ ww, RdAt ww r d { p with t := t2, mode := 0, anchor := 0 } → Calls Tryz.prog 179 #[.pointer (some ⟨d, 0, none⟩), .int .i64 q] ww fun e w' => e = .returned (.tuple #[]) ∧ RdAt w' r d { p with t := t2, mode := 0, anchor := 0, pl := Nib.clm t2 q } ∧ Upd [d] ww w') := fun ww hh => mMoveTo r d { p with t := t2, mode := 0, anchor := 0 } q q ww hh hs2 rfl hq
 have v99 : (v == 99) = false := by simp; omega
 have v121 : (v == 121) = false := by simp; omega
 have v99' : (v != 99) = true := by simp; omega
 generalize hP6 : ({ p with t := t2, mode := 0, anchor := 0, pl := Nib.clm t2 q } : Pg) = P6 at *
 generalize hP5 : ({ p with t := t2, mode := 0, anchor := 0 } : Pg) = P5 at *
 generalize hP4 : ({ p with t := t2 } : Pg) = P4 at *
 clear hP4 hP5 hP6
 have H := h
 obtain ⟨c0, c1, c2, c3, c4, c5, c6, c7, c8, c9, fz, lt⟩ := h.dk
 obtain ⟨b0, b1, b2, b3, b4, b5, bz, bl⟩ := h.bg
 clear c2 c3 c4 c5 c6 c7 c8 c9 b1 b2 b3 b4 b5 h
 have l1 : r < w.heap.size + 1 := by omega
 have l2 : d < w.heap.size + 1 := by omega
 have l3 : ¬ w.heap.size = d := by omega
 have l4 : ¬ w.heap.size = r := by omega
 go_enter Tryz.func146, Tryz.ntmps146
 go_wp2_with fail
 refine (HN.out _).mono ?_
 rintro e w1 ⟨rfl, h1⟩
 obtain ⟨hc1, hf1, hz1⟩ := qb h1
 try simp at hz1
 have d0 : w1.cell? ⟨d, 0, none⟩ = some (.string p.t) := by rw [hc1 _ _ qs]; go_simp
 have d1 : w1.cell? ⟨d, 1, none⟩ = some (.int .i64 p.pl) := by rw [hc1 _ _ qs]; go_simp
 have r0 : w1.cell? ⟨r, 0, none⟩ = some (.pointer (some ⟨d, 0, none⟩)) := by rw [hc1 _ _ qs]; go_simp
 have p0 : w1.cell? ⟨w.heap.size, 0, none⟩ = some (.int .i64 i) := by rw [hc1 _ _ qi]; simp
 have p1 : w1.cell? ⟨w.heap.size, 1, none⟩ = some (.int .i64 j) := by rw [hc1 _ _ qi]; simp
 have p2 : w1.cell? ⟨w.heap.size, 2, none⟩ = some (.bool l) := by rw [hc1 _ _ qi]; simp
 have k1 : r < w1.heap.size := by omega
 have k2 : d < w1.heap.size := by omega
 have k3 : w.heap.size < w1.heap.size := by omega
 clear hc1 hf1
 go_wp2_with fail
 go_region_held3 (fun ww => ww.cell? ⟨r, 0, none⟩ = some (.pointer (some ⟨d, 0, none⟩)) ∧ ww.cell? ⟨d, 0, none⟩ = some (.string p.t) ∧ ww.cell? ⟨w.heap.size, 0, none⟩ = some (.int .i64 i) ∧ ww.cell? ⟨w.heap.size, 1, none⟩ = some (.int .i64 j) ∧ ww.cell? ⟨w.heap.size, 2, none⟩ = some (.bool l)) (exact qK) (first | (go_at_call 173; with_reducible refine Calls.mono (HT.out (w1.alloc (.cells #[.string ⟨#[]⟩, .bool false] 99)).drew) ?_; rintro r2 w2 ⟨rfl, h2⟩; obtain ⟨hc2, hf2, hz2⟩ := qb h2; simp at hz2; have hn0 : w2.cell? ⟨w1.heap.size, 0, none⟩ = some (.string ⟨#[]⟩) := (hc2 (w1.heap.size) 0 qi).trans qi; have hn1 : w2.cell? ⟨w1.heap.size, 1, none⟩ = some (.bool false) := (hc2 (w1.heap.size) 1 qi).trans qi; have hq2 : ∀ o, w2.frozen? ⟨w1.heap.size, o, none⟩ = false := (fun o => (hf2 (w1.heap.size) o qi).trans qi); clear hc2 hf2) | (go_at_call 173; with_reducible refine Calls.mono (HT.out w1.drew) ?_; rintro r2 w2 ⟨rfl, h2⟩; have hz2 := h2.size; simp at hz2))
 rename_i hHeld
 have E : DoAt w (w2.alloc (.cells #[.string X, .bool l] 99)) r d m w.heap.size w2.heap.size p f i j l X := by
  exact qt32
 clear hHeld h1 h2 hz2 hg H d0 d1 r0 p0 p1 p2
 generalize (w2.alloc (.cells #[.string X, .bool l] 99)) = W at *
 generalize w2.heap.size = k at *
 rotate_left
 rename_i hHeld
 have E : DoAt w ((w2.setCell ⟨w1.heap.size, 0, none⟩ (.string X)).setCell ⟨w1.heap.size, 1, none⟩ (.bool l)) r d m w.heap.size w1.heap.size p f i j l X := by
  exact qt27
 clear hHeld h1 h2 hz2 hg H d0 d1 r0 p0 p1 p2
 generalize ((w2.setCell ⟨w1.heap.size, 0, none⟩ (.string X)).setCell ⟨w1.heap.size, 1, none⟩ (.bool l)) = W at *
 generalize w1.heap.size = k at *
 rotate_left
 all_goals
  obtain ⟨rd, rg, p0, p1, p2, x0, x1, lb, lk, up, lw⟩ := E
  have H := rd
  have r0 := rd.bg.c0
  have d0 := rd.dk.c0
  have d1 := rd.dk.c1
  have hlr := rd.bg.lt
  have hld := rd.dk.lt
  go_wp2_with fail
  go_region_held3 (fun ww => ww.cell? ⟨r, 0, none⟩ = some (.pointer (some ⟨d, 0, none⟩)) ∧ ww.cell? ⟨d, 0, none⟩ = some (.string p.t) ∧ ww.cell? ⟨d, 1, none⟩ = some (.int .i64 p.pl) ∧ ww.cell? ⟨w.heap.size, 0, none⟩ = some (.int .i64 i) ∧ ww.cell? ⟨w.heap.size, 1, none⟩ = some (.int .i64 j) ∧ ww.cell? ⟨w.heap.size, 2, none⟩ = some (.bool l)) (exact qK) ((go_at_call 174; refine Calls.mono (HD.out _) ?_; rintro r3 w3 ⟨rfl, h3⟩; have hz3 := h3.size; (try simp at hz3); (try have ⟨hl3_0, hk3_0⟩ := qL d w3.heap.size); (try have ⟨hl3_1, hk3_1⟩ := qL r w3.heap.size); (try have ⟨hl3_2, hk3_2⟩ := qL w.heap.size w3.heap.size)))
  have H3 := (rd.drew).below h3
  have G3 := (rg.drew).below h3
  have y0 := memLater h3 (memLater ((Below.refl _ _).drew) x0)
  have y1 := memLater h3 (memLater ((Below.refl _ _).drew) x1)
  have up3 : Below w.heap.size w w3 := by
   repeat exact qB
  clear rd rg x0 x1 up h3 H r0 d0 d1
  go_wp2_with fail
  refine Calls.mono (HBc.out _ H3) ?_
  rintro e4 w4 ⟨rfl, H4, u4⟩
  have G4 : RgAt w4 m f := G3.of_block (u4.block m G3.lt (by simp; exact hmd))
  have z0 := u4.was y0 qs
  have z1 := u4.was y1 qs
  go_wp2_with fail
  refine Calls.mono (HWs.out _) ?_
  rintro e5 w5 ⟨rfl, h5⟩
  have H5 := H4.below h5
  have G5 := G4.below h5
  have U6 : Upd [d, m] w w5 := Upd.below (Upd.trans (Upd.of_below up3) (Upd.mono u4 qi)) h5
  have r0 := H5.bg.c0
  clear z0 z1 y0 y1 G4 G3 H3 H4 u4 h5 up3
  go_wp2_with fail
  refine Calls.mono (HTN.out _ H5) ?_
  rintro e7 w7 ⟨rfl, H7, u7⟩
  have G7 : RgAt w7 m f := G5.of_block (u7.block m G5.lt (by simp; exact hmd))
  have r7 := H7.bg.c0
  go_wp2_with fail
  refine Calls.mono (HMv.out _ H7) ?_
  rintro e8 w8 ⟨rfl, H8, u8⟩
  have G8 : RgAt w8 m f := G7.of_block (u8.block m G7.lt (by simp; exact hmd))
  have U8 : Upd [d, m] w w8 := (U6.trans (u7.mono qi)).trans (u8.mono qi)
  clear u7 u8 U6 H7 H5 G7 G5
  go_wp2
  go_ret
  exact ⟨rfl, H8, G8, U8⟩
theorem mBegin_i (r d : Nat) (p : Pg) (w : World) (h : RdAt w r d p) (hs : p.t.size ≤ 1000) (hl : p.pl ≤ p.t.size) :
  Calls Tryz.prog 152 #[.agg #[.pointer (some ⟨r, 0, none⟩)], .int .u8 105] w fun e w' => e = .returned (.int .i64 1) ∧ RdAt w' r d { p with mode := 1, anchor := 0, pl := p.pl } ∧ Upd [d] w w' := by
 have HL : Hid (∀ ww, RdAt ww r d p → qC 181 #[.pointer (some ⟨d, 0, none⟩)] ww (.agg #[.int .i64 (Nib.beg p.t p.pl), .int .i64 (Nib.fin p.t p.pl)])) := fun ww hh => mLine r d p ww hh hs hl
 have HI : Hid (∀ ww, RdAt ww r d p → Calls Tryz.prog 178 #[.pointer (some ⟨d, 0, none⟩), .int .i64 p.pl] ww fun e w' => e = .returned (.int .i64 1) ∧ RdAt w' r d { p with mode := 1, anchor := 0, pl := p.pl } ∧ Upd [d] ww w') := fun ww hh => mInsertAt r d p p.pl ww hh
 have H := h
 have b0 := h.bg.c0
 have bl := h.bg.lt
 have c1 := h.dk.c1
 have dl := h.dk.lt
 have l1 : r < w.heap.size + 1 := by omega
 have l2 : d < w.heap.size + 1 := by omega
 generalize hP : ({ p with mode := 1, anchor := 0, pl := p.pl } : Pg) = p2 at *
 generalize Nib.beg p.t p.pl = LB at *
 generalize Nib.fin p.t p.pl = LE at *
 have q2 : p2.pl = p.pl := by rw [← hP]
 clear hP
 go_enter Tryz.func152, Tryz.ntmps152
 go_wp2_with fail
 refine Calls.mono (HL.out _ qRd) ?_
 rintro e w1 ⟨rfl, h1⟩
 have hz1 := h1.size
 (try simp at hz1)
 have g0 : w1.cell? ⟨w.heap.size, 0, none⟩ = some (.pointer (some ⟨r, 0, none⟩)) := memLater h1 qi
 go_wp2_with fail
 go_region_held3 (fun ww => ww.cell? ⟨w.heap.size, 0, none⟩ = some (.pointer (some ⟨r, 0, none⟩)) ∧ ww.cell? ⟨r, 0, none⟩ = some (.pointer (some ⟨d, 0, none⟩)) ∧ ww.cell? ⟨d, 1, none⟩ = some (.int .i64 p.pl)) (exact qK) ((go_at_call 178; refine Calls.mono (HI.out _ qRd) ?_; rintro r3 w3 ⟨rfl, h3, u3⟩; have hz3 := u3.size; (try simp at hz3); have a0 := h3.bg.c0; have a1 := h3.dk.c1; rw [q2] at a1; have a2 := u3.was (b := w.heap.size) (o := 0) (v := .pointer (some ⟨r, 0, none⟩)) qM qs))
 exact qt16
theorem mBegin_A (r d : Nat) (p : Pg) (w : World) (h : RdAt w r d p) (hs : p.t.size ≤ 1000) (hl : p.pl ≤ p.t.size) :
  Calls Tryz.prog 152 #[.agg #[.pointer (some ⟨r, 0, none⟩)], .int .u8 65] w fun e w' => e = .returned (.int .i64 1) ∧ RdAt w' r d { p with mode := 1, anchor := 0, pl := Nib.fin p.t p.pl } ∧ Upd [d] w w' := by
 have HL : Hid (∀ ww, RdAt ww r d p → qC 181 #[.pointer (some ⟨d, 0, none⟩)] ww (.agg #[.int .i64 (Nib.beg p.t p.pl), .int .i64 (Nib.fin p.t p.pl)])) := fun ww hh => mLine r d p ww hh hs hl
 have HI : Hid (∀ ww, RdAt ww r d p → Calls Tryz.prog 178 #[.pointer (some ⟨d, 0, none⟩), .int .i64 ((Nib.fin p.t p.pl : Nat) : Int)] ww fun e w' => e = .returned (.int .i64 1) ∧ RdAt w' r d { p with mode := 1, anchor := 0, pl := Nib.fin p.t p.pl } ∧ Upd [d] ww w') := fun ww hh => mInsertAt r d p (Nib.fin p.t p.pl) ww hh
 have H := h
 have b0 := h.bg.c0
 have bl := h.bg.lt
 have c1 := h.dk.c1
 have dl := h.dk.lt
 have l1 : r < w.heap.size + 1 := by omega
 have l2 : d < w.heap.size + 1 := by omega
 generalize hP : ({ p with mode := 1, anchor := 0, pl := Nib.fin p.t p.pl } : Pg) = p2 at *
 generalize Nib.beg p.t p.pl = LB at *
 generalize Nib.fin p.t p.pl = LE at *
 clear hP
 go_enter Tryz.func152, Tryz.ntmps152
 go_wp2_with fail
 refine Calls.mono (HL.out _ qRd) ?_
 rintro e w1 ⟨rfl, h1⟩
 have hz1 := h1.size
 (try simp at hz1)
 have g0 : w1.cell? ⟨w.heap.size, 0, none⟩ = some (.pointer (some ⟨r, 0, none⟩)) := memLater h1 qi
 have x0 : (w1.alloc (.cells #[.int .i64 LB, .int .i64 LE] 128)).cell? ⟨w1.heap.size, 0, none⟩ = some (.int .i64 LB) := by simp
 have x1 : (w1.alloc (.cells #[.int .i64 LB, .int .i64 LE] 128)).cell? ⟨w1.heap.size, 1, none⟩ = some (.int .i64 LE) := by simp
 go_wp2_with fail
 go_region_held3 (fun ww => ww.cell? ⟨w.heap.size, 0, none⟩ = some (.pointer (some ⟨r, 0, none⟩)) ∧ ww.cell? ⟨r, 0, none⟩ = some (.pointer (some ⟨d, 0, none⟩)) ∧ ww.cell? ⟨w1.heap.size, 0, none⟩ = some (.int .i64 LB) ∧ ww.cell? ⟨w1.heap.size, 1, none⟩ = some (.int .i64 LE)) (exact qK) ((go_at_call 178; refine Calls.mono (HI.out _ qRd) ?_; rintro r3 w3 ⟨rfl, h3, u3⟩; have hz3 := u3.size; (try simp at hz3); have a0 := h3.bg.c0; have b1 := u3.was (b := w1.heap.size) (o := 0) (v := .int .i64 LB) (memLater ((Below.refl _ _).drew) x0) qs; have b2 := u3.was (b := w1.heap.size) (o := 1) (v := .int .i64 LE) (memLater ((Below.refl _ _).drew) x1) qs; have a2 := u3.was (b := w.heap.size) (o := 0) (v := .pointer (some ⟨r, 0, none⟩)) qM qs))
 exact qt16
theorem mBegin_I (r d : Nat) (p : Pg) (w : World) (h : RdAt w r d p) (hs : p.t.size ≤ 1000) (hl : p.pl ≤ p.t.size) :
  Calls Tryz.prog 152 #[.agg #[.pointer (some ⟨r, 0, none⟩)], .int .u8 73] w fun e w' => e = .returned (.int .i64 1) ∧ RdAt w' r d { p with mode := 1, anchor := 0, pl := Nib.ind p.t p.pl } ∧ Upd [d] w w' := by
 have HL : Hid (∀ ww, RdAt ww r d p → qC 181 #[.pointer (some ⟨d, 0, none⟩)] ww (.agg #[.int .i64 (Nib.beg p.t p.pl), .int .i64 (Nib.fin p.t p.pl)])) := fun ww hh => mLine r d p ww hh hs hl
 have HI : Hid (∀ ww, RdAt ww r d p → Calls Tryz.prog 178 #[.pointer (some ⟨d, 0, none⟩), .int .i64 ((Nib.ind p.t p.pl : Nat) : Int)] ww fun e w' => e = .returned (.int .i64 1) ∧ RdAt w' r d { p with mode := 1, anchor := 0, pl := Nib.ind p.t p.pl } ∧ Upd [d] ww w') := fun ww hh => mInsertAt r d p (Nib.ind p.t p.pl) ww hh
 have HN : qH 187 #[.string p.t, .agg #[.int .i64 (Nib.beg p.t p.pl), .int .i64 (Nib.fin p.t p.pl)]] (.agg #[.int .i64 (Nib.beg p.t p.pl), .int .i64 (Nib.ind p.t p.pl)]) := fun ww => tIndent_any p.t _ _ p.pl ww hs hl rfl rfl
 have c0 := h.dk.c0
 have H := h
 have b0 := h.bg.c0
 have bl := h.bg.lt
 have c1 := h.dk.c1
 have dl := h.dk.lt
 have l1 : r < w.heap.size + 1 := by omega
 have l2 : d < w.heap.size + 1 := by omega
 generalize hP : ({ p with mode := 1, anchor := 0, pl := Nib.ind p.t p.pl } : Pg) = p2 at *
 generalize Nib.beg p.t p.pl = LB at *
 generalize Nib.fin p.t p.pl = LE at *
 generalize Nib.ind p.t p.pl = LI at *
 have hx := ix1 LB LI
 have q2 : p2.t = p.t := by rw [← hP]
 clear hP
 go_enter Tryz.func152, Tryz.ntmps152
 go_wp2_with fail
 refine Calls.mono (HL.out _ qRd) ?_
 rintro e w1 ⟨rfl, h1⟩
 have hz1 := h1.size
 (try simp at hz1)
 have g0 : w1.cell? ⟨w.heap.size, 0, none⟩ = some (.pointer (some ⟨r, 0, none⟩)) := memLater h1 qi
 have x0 : (w1.alloc (.cells #[.int .i64 LB, .int .i64 LE] 128)).cell? ⟨w1.heap.size, 0, none⟩ = some (.int .i64 LB) := by simp
 have x1 : (w1.alloc (.cells #[.int .i64 LB, .int .i64 LE] 128)).cell? ⟨w1.heap.size, 1, none⟩ = some (.int .i64 LE) := by simp
 go_wp2_with fail
 go_region_held3 (fun ww => ww.cell? ⟨w.heap.size, 0, none⟩ = some (.pointer (some ⟨r, 0, none⟩)) ∧ ww.cell? ⟨r, 0, none⟩ = some (.pointer (some ⟨d, 0, none⟩)) ∧ ww.cell? ⟨d, 0, none⟩ = some (.string p.t) ∧ ww.cell? ⟨w1.heap.size, 0, none⟩ = some (.int .i64 LB) ∧ ww.cell? ⟨w1.heap.size, 1, none⟩ = some (.int .i64 LE)) (exact qK) (first | (go_at_call 187; refine Calls.mono (HN.out _) ?_; rintro r2 w2 ⟨rfl, h2⟩; have hz2 := h2.size; (try simp at hz2); (try have ⟨hl2_0, hk2_0⟩ := qL d w2.heap.size); (try have ⟨hl2_1, hk2_1⟩ := qL r w2.heap.size); (try have ⟨hl2_2, hk2_2⟩ := qL w.heap.size w2.heap.size); (try have ⟨hl2_3, hk2_3⟩ := qL w1.heap.size w2.heap.size)) | (go_at_call 178; refine Calls.mono (HI.out _ qRd) ?_; rintro r3 w3 ⟨rfl, h3, u3⟩; have hz3 := u3.size; (try simp at hz3); have a0 := h3.bg.c0; have a1 := h3.dk.c0; rw [q2] at a1; have b1 := u3.was (b := w1.heap.size) (o := 0) (v := .int .i64 LB) (memLater h2 (memLater ((Below.refl _ _).drew) x0)) qs; have b2 := u3.was (b := w1.heap.size) (o := 1) (v := .int .i64 LE) (memLater h2 (memLater ((Below.refl _ _).drew) x1)) qs; have a2 := u3.was (b := w.heap.size) (o := 0) (v := .pointer (some ⟨r, 0, none⟩)) qM qs))
 exact qt16
def olB (p : Pg) : ByteArray := p.t.extract (Nib.beg p.t p.pl) (Nib.ind p.t p.pl)
def olK (p : Pg) (key : Int) : Nat := if key = 79 then Nib.beg p.t p.pl else Nib.fin p.t p.pl
def olT (p : Pg) (key : Int) : ByteArray := if key = 79 then olB p ++ ⟨#[10]⟩ else ⟨#[10]⟩ ++ olB p
def olE (p : Pg) (key : Int) : Nat := if key = 79 then Nib.beg p.t p.pl + (olB p).size else Nib.fin p.t p.pl + 1 + (olB p).size
def olP (p : Pg) (key : Int) : Pg := if (put p.t (olT p key) (olK p key)).size ≤ 1000 then { p with t := put p.t (olT p key) (olK p key), mode := 1, anchor := 0, pl := olE p key } else p
def olO (p : Pg) (key : Int) : Int := if (put p.t (olT p key) (olK p key)).size ≤ 1000 then 1 else 4
theorem qt82 {P : Prop} (h : P := by
  have r4 := H4.bg.c0
  go_wp2_with fail
  refine Calls.mono (HW.out _ H4) ?_
  rintro e w5 ⟨rfl, h5, u5⟩
  have r5 := h5.bg.c0
  have e5 := u5.was e4 qs
  go_wp2_with fail
  refine Calls.mono (HIn.out _ h5) ?_
  rintro e w6 ⟨rfl, h6, u6⟩
  go_wp2
  go_ret
  exact ⟨rfl, h6, (U4.trans u5).trans u6⟩
 ) : P := h
theorem mOpen (r d : Nat) (p : Pg) (key : Int) (w : World) (h : RdAt w r d p) (hs : p.t.size ≤ 1000) (hl : p.pl ≤ p.t.size) (hk : key = 111 ∨ key = 79) :
  Calls Tryz.prog 153 #[.agg #[.pointer (some ⟨r, 0, none⟩)], .int .u8 key] w fun e w' => e = .returned (.int .i64 (olO p key)) ∧ RdAt w' r d (olP p key) ∧ Upd [d] w w' := by
 have HL : Hid (∀ ww, RdAt ww r d p → qC 181 #[.pointer (some ⟨d, 0, none⟩)] ww (.agg #[.int .i64 (Nib.beg p.t p.pl), .int .i64 (Nib.fin p.t p.pl)])) := fun ww hh => mLine r d p ww hh hs hl
 have HI : qH 187 #[.string p.t, .agg #[.int .i64 (Nib.beg p.t p.pl), .int .i64 (Nib.fin p.t p.pl)]] (.agg #[.int .i64 (Nib.beg p.t p.pl), .int .i64 (Nib.ind p.t p.pl)]) := fun ww => tIndent_any p.t _ _ p.pl ww hs hl rfl rfl
 have h1 := Nib.beg_le p.t p.pl
 have h2 : Nib.beg p.t p.pl ≤ Nib.ind p.t p.pl := Nib.up_ge _ _ _
 have h5 := Nib.fin_ge p.t p.pl
 have h4 := Nib.fin_le hl
 have h3 : Nib.ind p.t p.pl ≤ Nib.fin p.t p.pl := Nib.up_le qo
 have HO : qH 87 #[.string p.t, .agg #[.int .i64 (Nib.beg p.t p.pl), .int .i64 (Nib.ind p.t p.pl)]] (.string (olB p)) := fun ww => tOf_any p.t _ _ _ _ ww hs rfl rfl h2 qo
 have hbz : (olB p).size ≤ 1000 := by unfold olB; rw [ByteArray.size_extract]; omega
 have hkl : olK p key ≤ p.t.size := by unfold olK; split <;> omega
 have h10 : (⟨#[10]⟩ : ByteArray).size = 1 := rfl
 have htz : (olT p key).size ≤ 1000000 := by unfold olT; split <;> (rw [ByteArray.size_append]; omega)
 have HWf : (put p.t (olT p key) (olK p key)).size ≤ 1000 → Hid (∀ ww, RdAt ww r d p → Calls Tryz.prog 188 #[.pointer (some ⟨d, 0, none⟩), .int .i64 (olK p key : Nat), .string (olT p key)] ww fun e w' => e = .returned (.bool true) ∧ RdAt w' r d { p with t := put p.t (olT p key) (olK p key) } ∧ Upd [d] ww w') := fun hf ww hh => mWrite_fits r d p _ _ ww hh hs htz hkl hf
 have HWl : ¬ (put p.t (olT p key) (olK p key)).size ≤ 1000 → Hid (∀ ww, RdAt ww r d p → qC 188 #[.pointer (some ⟨d, 0, none⟩), .int .i64 (olK p key : Nat), .string (olT p key)] ww (.bool false)) := fun hf ww hh => mWrite_long r d p _ _ ww hh hs htz hkl qo
 have HIn : Hid (∀ ww, RdAt ww r d { p with t := put p.t (olT p key) (olK p key) } → Calls Tryz.prog 178 #[.pointer (some ⟨d, 0, none⟩), .int .i64 (olE p key : Nat)] ww fun e w' => e = .returned (.int .i64 1) ∧ RdAt w' r d { p with t := put p.t (olT p key) (olK p key), mode := 1, anchor := 0, pl := olE p key } ∧ Upd [d] ww w') := fun ww hh => mInsertAt r d _ _ ww hh
 have H := h
 have b0 := h.bg.c0
 have bl := h.bg.lt
 have c0 := h.dk.c0
 have dl := h.dk.lt
 have l1 : r < w.heap.size + 1 := by omega
 have l2 : d < w.heap.size + 1 := by omega
 unfold olP olO
 generalize hP : ({ p with t := put p.t (olT p key) (olK p key), mode := 1, anchor := 0, pl := olE p key } : Pg) = p2 at *
 generalize hP3 : ({ p with t := put p.t (olT p key) (olK p key) } : Pg) = p3 at *
 generalize put p.t (olT p key) (olK p key) = X at *
 clear hP hP3
 unfold olT olK olE at *
 generalize olB p = BL at *
 generalize Nib.beg p.t p.pl = LB at *
 generalize Nib.fin p.t p.pl = LE at *
 generalize Nib.ind p.t p.pl = LI at *
 have fs1 : ¬ 9223372036854775807 < BL.size + 1 := by omega
 have fs2 : ¬ 9223372036854775807 < 1 + BL.size := by omega
 have w1' : IntKind.i64.wrap ((LE : Int) + 1) = (LE : Int) + 1 := by rw [IntKind.wrap_i64]; omega
 have w2' : IntKind.i64.wrap ((LE : Int) + 1 + BL.size) = (LE : Int) + 1 + BL.size := by rw [IntKind.wrap_i64]; omega
 have w3' : IntKind.i64.wrap ((LB : Int) + BL.size) = (LB : Int) + BL.size := by rw [IntKind.wrap_i64]; omega
 have c1 : (((LE + 1 + BL.size : Nat)) : Int) = (LE : Int) + 1 + BL.size := by omega
 have c2 : (((LB + BL.size : Nat)) : Int) = (LB : Int) + BL.size := by omega
 clear h1 h2 h3 h4 h5 hbz hkl htz h10
 rcases hk with hk | hk
 ·subst hk
  by_cases hf : X.size ≤ 1000
  ·have HW := HWf hf
   rw [if_pos hf, if_pos hf]
   clear HWf HWl hf
   rw [if_neg qd, if_neg qd] at HW
   rw [if_neg qd, c1] at HIn
   clear c1 c2
   go_enter Tryz.func153, Tryz.ntmps153
   go_wp2_with fail
   refine Calls.mono (HL.out _ qRd) ?_
   rintro e w1 ⟨rfl, h1⟩
   have hz1 := h1.size
   (try simp at hz1)
   have g0 : w1.cell? ⟨w.heap.size, 0, none⟩ = some (.pointer (some ⟨r, 0, none⟩)) := memLater h1 qi
   have x0 : (w1.alloc (.cells #[.int .i64 LB, .int .i64 LE] 128)).cell? ⟨w1.heap.size, 0, none⟩ = some (.int .i64 LB) := by simp
   have x1 : (w1.alloc (.cells #[.int .i64 LB, .int .i64 LE] 128)).cell? ⟨w1.heap.size, 1, none⟩ = some (.int .i64 LE) := by simp
   go_wp2_with fail
   go_region_held3 (fun ww => ww.cell? ⟨w.heap.size, 0, none⟩ = some (.pointer (some ⟨r, 0, none⟩)) ∧ ww.cell? ⟨r, 0, none⟩ = some (.pointer (some ⟨d, 0, none⟩)) ∧ ww.cell? ⟨d, 0, none⟩ = some (.string p.t) ∧ ww.cell? ⟨w1.heap.size, 0, none⟩ = some (.int .i64 LB) ∧ ww.cell? ⟨w1.heap.size, 1, none⟩ = some (.int .i64 LE)) (exact qK) (first | (go_at_call 187; refine Calls.mono (HI.out _) ?_; rintro r2 w2 ⟨rfl, h2⟩; have hz2 := h2.size; (try simp at hz2); (try have ⟨hl2_0, hk2_0⟩ := qL d w2.heap.size); (try have ⟨hl2_1, hk2_1⟩ := qL r w2.heap.size); (try have ⟨hl2_2, hk2_2⟩ := qL w.heap.size w2.heap.size); (try have ⟨hl2_3, hk2_3⟩ := qL w1.heap.size w2.heap.size)) | (go_at_call 87; refine Calls.mono (HO.out _) ?_; rintro r3 w3 ⟨rfl, h3⟩; have hz3 := h3.size; (try simp at hz3); (try have ⟨hl3_0, hk3_0⟩ := qL d w3.heap.size); (try have ⟨hl3_1, hk3_1⟩ := qL r w3.heap.size); (try have ⟨hl3_2, hk3_2⟩ := qL w.heap.size w3.heap.size); (try have ⟨hl3_3, hk3_3⟩ := qL w1.heap.size w3.heap.size)))
   have H3 : RdAt w3 r d p := (((((H.alloc _).below h1).alloc _).drew).below h2).below h3
   have e0 : w3.cell? ⟨w.heap.size, 0, none⟩ = some (.pointer (some ⟨r, 0, none⟩)) := memLater h3 (memLater h2 (memLater ((Below.refl _ _).drew) (memLater ((Below.refl _ _).alloc (Nat.le_refl _) _) g0)))
   have y0 : w3.cell? ⟨w1.heap.size, 0, none⟩ = some (.int .i64 LB) := memLater h3 (memLater h2 (memLater ((Below.refl _ _).drew) x0))
   have y1 : w3.cell? ⟨w1.heap.size, 1, none⟩ = some (.int .i64 LE) := memLater h3 (memLater h2 (memLater ((Below.refl _ _).drew) x1))
   have U3 : Upd [d] w w3 := by
    repeat exact qU
   have z3 := U3.size
   have k3 : w.heap.size < w3.heap.size := by omega
   clear h1 h2 h3 x0 x1 g0 b0 c0
   have r0 := H3.bg.c0
   go_wp2_with fail
   go_region_held3 (fun ww => ww.cell? ⟨w1.heap.size, 0, none⟩ = some (.int .i64 LB) ∧ ww.cell? ⟨w1.heap.size, 1, none⟩ = some (.int .i64 LE)) (exact qK) (fail)
   have H4 : RdAt (w3.drew) r d p := H3.drew
   have e4 : (w3.drew).cell? ⟨w.heap.size, 0, none⟩ = some (.pointer (some ⟨r, 0, none⟩)) := memLater ((Below.refl _ _).drew) (e0)
   have U4 : Upd [d] w (w3.drew) := Upd.drew (U3)
   have k4 : w.heap.size < (w3.drew).heap.size := k3
   generalize (w3.drew) = W4 at *
   exact qt82
  ·have HW := HWl hf
   rw [if_neg hf, if_neg hf]
   clear HWf HWl hf
   rw [if_neg qd, if_neg qd] at HW
   clear HIn
   clear c1 c2
   go_enter Tryz.func153, Tryz.ntmps153
   go_wp2_with fail
   refine Calls.mono (HL.out _ qRd) ?_
   rintro e w1 ⟨rfl, h1⟩
   have hz1 := h1.size
   (try simp at hz1)
   have g0 : w1.cell? ⟨w.heap.size, 0, none⟩ = some (.pointer (some ⟨r, 0, none⟩)) := memLater h1 qi
   have x0 : (w1.alloc (.cells #[.int .i64 LB, .int .i64 LE] 128)).cell? ⟨w1.heap.size, 0, none⟩ = some (.int .i64 LB) := by simp
   have x1 : (w1.alloc (.cells #[.int .i64 LB, .int .i64 LE] 128)).cell? ⟨w1.heap.size, 1, none⟩ = some (.int .i64 LE) := by simp
   go_wp2_with fail
   go_region_held3 (fun ww => ww.cell? ⟨w.heap.size, 0, none⟩ = some (.pointer (some ⟨r, 0, none⟩)) ∧ ww.cell? ⟨r, 0, none⟩ = some (.pointer (some ⟨d, 0, none⟩)) ∧ ww.cell? ⟨d, 0, none⟩ = some (.string p.t) ∧ ww.cell? ⟨w1.heap.size, 0, none⟩ = some (.int .i64 LB) ∧ ww.cell? ⟨w1.heap.size, 1, none⟩ = some (.int .i64 LE)) (exact qK) (first | (go_at_call 187; refine Calls.mono (HI.out _) ?_; rintro r2 w2 ⟨rfl, h2⟩; have hz2 := h2.size; (try simp at hz2); (try have ⟨hl2_0, hk2_0⟩ := qL d w2.heap.size); (try have ⟨hl2_1, hk2_1⟩ := qL r w2.heap.size); (try have ⟨hl2_2, hk2_2⟩ := qL w.heap.size w2.heap.size); (try have ⟨hl2_3, hk2_3⟩ := qL w1.heap.size w2.heap.size)) | (go_at_call 87; refine Calls.mono (HO.out _) ?_; rintro r3 w3 ⟨rfl, h3⟩; have hz3 := h3.size; (try simp at hz3); (try have ⟨hl3_0, hk3_0⟩ := qL d w3.heap.size); (try have ⟨hl3_1, hk3_1⟩ := qL r w3.heap.size); (try have ⟨hl3_2, hk3_2⟩ := qL w.heap.size w3.heap.size); (try have ⟨hl3_3, hk3_3⟩ := qL w1.heap.size w3.heap.size)))
   have H3 : RdAt w3 r d p := (((((H.alloc _).below h1).alloc _).drew).below h2).below h3
   have e0 : w3.cell? ⟨w.heap.size, 0, none⟩ = some (.pointer (some ⟨r, 0, none⟩)) := memLater h3 (memLater h2 (memLater ((Below.refl _ _).drew) (memLater ((Below.refl _ _).alloc (Nat.le_refl _) _) g0)))
   have y0 : w3.cell? ⟨w1.heap.size, 0, none⟩ = some (.int .i64 LB) := memLater h3 (memLater h2 (memLater ((Below.refl _ _).drew) x0))
   have y1 : w3.cell? ⟨w1.heap.size, 1, none⟩ = some (.int .i64 LE) := memLater h3 (memLater h2 (memLater ((Below.refl _ _).drew) x1))
   have U3 : Upd [d] w w3 := by
    repeat exact qU
   have z3 := U3.size
   have k3 : w.heap.size < w3.heap.size := by omega
   clear h1 h2 h3 x0 x1 g0 b0 c0
   have r0 := H3.bg.c0
   go_wp2_with fail
   go_region_held3 (fun ww => ww.cell? ⟨w1.heap.size, 0, none⟩ = some (.int .i64 LB) ∧ ww.cell? ⟨w1.heap.size, 1, none⟩ = some (.int .i64 LE)) (exact qK) (fail)
   have H4 : RdAt (w3.drew) r d p := H3.drew
   have e4 : (w3.drew).cell? ⟨w.heap.size, 0, none⟩ = some (.pointer (some ⟨r, 0, none⟩)) := memLater ((Below.refl _ _).drew) (e0)
   have U4 : Upd [d] w (w3.drew) := Upd.drew (U3)
   generalize (w3.drew) = W4 at *
   have r4 := H4.bg.c0
   go_wp2_with fail
   refine Calls.mono (HW.out _ H4) ?_
   rintro e w5 ⟨rfl, h5⟩
   go_wp2
   go_ret
   exact ⟨rfl, H4.below h5, Upd.below U4 h5⟩
 ·subst hk
  by_cases hf : X.size ≤ 1000
  ·have HW := HWf hf
   rw [if_pos hf, if_pos hf]
   clear HWf HWl hf
   rw [if_pos rfl, if_pos rfl] at HW
   rw [if_pos rfl, c2] at HIn
   clear c1 c2
   go_enter Tryz.func153, Tryz.ntmps153
   go_wp2_with fail
   refine Calls.mono (HL.out _ qRd) ?_
   rintro e w1 ⟨rfl, h1⟩
   have hz1 := h1.size
   (try simp at hz1)
   have g0 : w1.cell? ⟨w.heap.size, 0, none⟩ = some (.pointer (some ⟨r, 0, none⟩)) := memLater h1 qi
   have x0 : (w1.alloc (.cells #[.int .i64 LB, .int .i64 LE] 128)).cell? ⟨w1.heap.size, 0, none⟩ = some (.int .i64 LB) := by simp
   have x1 : (w1.alloc (.cells #[.int .i64 LB, .int .i64 LE] 128)).cell? ⟨w1.heap.size, 1, none⟩ = some (.int .i64 LE) := by simp
   go_wp2_with fail
   go_region_held3 (fun ww => ww.cell? ⟨w.heap.size, 0, none⟩ = some (.pointer (some ⟨r, 0, none⟩)) ∧ ww.cell? ⟨r, 0, none⟩ = some (.pointer (some ⟨d, 0, none⟩)) ∧ ww.cell? ⟨d, 0, none⟩ = some (.string p.t) ∧ ww.cell? ⟨w1.heap.size, 0, none⟩ = some (.int .i64 LB) ∧ ww.cell? ⟨w1.heap.size, 1, none⟩ = some (.int .i64 LE)) (exact qK) (first | (go_at_call 187; refine Calls.mono (HI.out _) ?_; rintro r2 w2 ⟨rfl, h2⟩; have hz2 := h2.size; (try simp at hz2); (try have ⟨hl2_0, hk2_0⟩ := qL d w2.heap.size); (try have ⟨hl2_1, hk2_1⟩ := qL r w2.heap.size); (try have ⟨hl2_2, hk2_2⟩ := qL w.heap.size w2.heap.size); (try have ⟨hl2_3, hk2_3⟩ := qL w1.heap.size w2.heap.size)) | (go_at_call 87; refine Calls.mono (HO.out _) ?_; rintro r3 w3 ⟨rfl, h3⟩; have hz3 := h3.size; (try simp at hz3); (try have ⟨hl3_0, hk3_0⟩ := qL d w3.heap.size); (try have ⟨hl3_1, hk3_1⟩ := qL r w3.heap.size); (try have ⟨hl3_2, hk3_2⟩ := qL w.heap.size w3.heap.size); (try have ⟨hl3_3, hk3_3⟩ := qL w1.heap.size w3.heap.size)))
   have H3 : RdAt w3 r d p := (((((H.alloc _).below h1).alloc _).drew).below h2).below h3
   have e0 : w3.cell? ⟨w.heap.size, 0, none⟩ = some (.pointer (some ⟨r, 0, none⟩)) := memLater h3 (memLater h2 (memLater ((Below.refl _ _).drew) (memLater ((Below.refl _ _).alloc (Nat.le_refl _) _) g0)))
   have y0 : w3.cell? ⟨w1.heap.size, 0, none⟩ = some (.int .i64 LB) := memLater h3 (memLater h2 (memLater ((Below.refl _ _).drew) x0))
   have y1 : w3.cell? ⟨w1.heap.size, 1, none⟩ = some (.int .i64 LE) := memLater h3 (memLater h2 (memLater ((Below.refl _ _).drew) x1))
   have U3 : Upd [d] w w3 := by
    repeat exact qU
   have z3 := U3.size
   have k3 : w.heap.size < w3.heap.size := by omega
   clear h1 h2 h3 x0 x1 g0 b0 c0
   have r0 := H3.bg.c0
   go_wp2_with fail
   go_region_held3 (fun ww => ww.cell? ⟨w1.heap.size, 0, none⟩ = some (.int .i64 LB) ∧ ww.cell? ⟨w1.heap.size, 1, none⟩ = some (.int .i64 LE)) (exact qK) (fail)
   go_wp2_with fail
   go_region_held3 (fun ww => ww.cell? ⟨w1.heap.size, 0, none⟩ = some (.int .i64 LB) ∧ ww.cell? ⟨w1.heap.size, 1, none⟩ = some (.int .i64 LE)) (exact qK) (fail)
   have H4 : RdAt (w3.drew.drew) r d p := H3.drew.drew
   have e4 : (w3.drew.drew).cell? ⟨w.heap.size, 0, none⟩ = some (.pointer (some ⟨r, 0, none⟩)) := memLater ((Below.refl _ _).drew) (memLater ((Below.refl _ _).drew) (e0))
   have U4 : Upd [d] w (w3.drew.drew) := Upd.drew (Upd.drew (U3))
   have k4 : w.heap.size < (w3.drew.drew).heap.size := k3
   generalize (w3.drew.drew) = W4 at *
   exact qt82
  ·have HW := HWl hf
   rw [if_neg hf, if_neg hf]
   clear HWf HWl hf
   rw [if_pos rfl, if_pos rfl] at HW
   clear HIn
   clear c1 c2
   go_enter Tryz.func153, Tryz.ntmps153
   go_wp2_with fail
   refine Calls.mono (HL.out _ qRd) ?_
   rintro e w1 ⟨rfl, h1⟩
   have hz1 := h1.size
   (try simp at hz1)
   have g0 : w1.cell? ⟨w.heap.size, 0, none⟩ = some (.pointer (some ⟨r, 0, none⟩)) := memLater h1 qi
   have x0 : (w1.alloc (.cells #[.int .i64 LB, .int .i64 LE] 128)).cell? ⟨w1.heap.size, 0, none⟩ = some (.int .i64 LB) := by simp
   have x1 : (w1.alloc (.cells #[.int .i64 LB, .int .i64 LE] 128)).cell? ⟨w1.heap.size, 1, none⟩ = some (.int .i64 LE) := by simp
   go_wp2_with fail
   go_region_held3 (fun ww => ww.cell? ⟨w.heap.size, 0, none⟩ = some (.pointer (some ⟨r, 0, none⟩)) ∧ ww.cell? ⟨r, 0, none⟩ = some (.pointer (some ⟨d, 0, none⟩)) ∧ ww.cell? ⟨d, 0, none⟩ = some (.string p.t) ∧ ww.cell? ⟨w1.heap.size, 0, none⟩ = some (.int .i64 LB) ∧ ww.cell? ⟨w1.heap.size, 1, none⟩ = some (.int .i64 LE)) (exact qK) (first | (go_at_call 187; refine Calls.mono (HI.out _) ?_; rintro r2 w2 ⟨rfl, h2⟩; have hz2 := h2.size; (try simp at hz2); (try have ⟨hl2_0, hk2_0⟩ := qL d w2.heap.size); (try have ⟨hl2_1, hk2_1⟩ := qL r w2.heap.size); (try have ⟨hl2_2, hk2_2⟩ := qL w.heap.size w2.heap.size); (try have ⟨hl2_3, hk2_3⟩ := qL w1.heap.size w2.heap.size)) | (go_at_call 87; refine Calls.mono (HO.out _) ?_; rintro r3 w3 ⟨rfl, h3⟩; have hz3 := h3.size; (try simp at hz3); (try have ⟨hl3_0, hk3_0⟩ := qL d w3.heap.size); (try have ⟨hl3_1, hk3_1⟩ := qL r w3.heap.size); (try have ⟨hl3_2, hk3_2⟩ := qL w.heap.size w3.heap.size); (try have ⟨hl3_3, hk3_3⟩ := qL w1.heap.size w3.heap.size)))
   have H3 : RdAt w3 r d p := (((((H.alloc _).below h1).alloc _).drew).below h2).below h3
   have e0 : w3.cell? ⟨w.heap.size, 0, none⟩ = some (.pointer (some ⟨r, 0, none⟩)) := memLater h3 (memLater h2 (memLater ((Below.refl _ _).drew) (memLater ((Below.refl _ _).alloc (Nat.le_refl _) _) g0)))
   have y0 : w3.cell? ⟨w1.heap.size, 0, none⟩ = some (.int .i64 LB) := memLater h3 (memLater h2 (memLater ((Below.refl _ _).drew) x0))
   have y1 : w3.cell? ⟨w1.heap.size, 1, none⟩ = some (.int .i64 LE) := memLater h3 (memLater h2 (memLater ((Below.refl _ _).drew) x1))
   have U3 : Upd [d] w w3 := by
    repeat exact qU
   have z3 := U3.size
   have k3 : w.heap.size < w3.heap.size := by omega
   clear h1 h2 h3 x0 x1 g0 b0 c0
   have r0 := H3.bg.c0
   go_wp2_with fail
   go_region_held3 (fun ww => ww.cell? ⟨w1.heap.size, 0, none⟩ = some (.int .i64 LB) ∧ ww.cell? ⟨w1.heap.size, 1, none⟩ = some (.int .i64 LE)) (exact qK) (fail)
   go_wp2_with fail
   go_region_held3 (fun ww => ww.cell? ⟨w1.heap.size, 0, none⟩ = some (.int .i64 LB) ∧ ww.cell? ⟨w1.heap.size, 1, none⟩ = some (.int .i64 LE)) (exact qK) (fail)
   have H4 : RdAt (w3.drew.drew) r d p := H3.drew.drew
   have e4 : (w3.drew.drew).cell? ⟨w.heap.size, 0, none⟩ = some (.pointer (some ⟨r, 0, none⟩)) := memLater ((Below.refl _ _).drew) (memLater ((Below.refl _ _).drew) (e0))
   have U4 : Upd [d] w (w3.drew.drew) := Upd.drew (Upd.drew (U3))
   generalize (w3.drew.drew) = W4 at *
   have r4 := H4.bg.c0
   go_wp2_with fail
   refine Calls.mono (HW.out _ H4) ?_
   rintro e w5 ⟨rfl, h5⟩
   go_wp2
   go_ret
   exact ⟨rfl, H4.below h5, Upd.below U4 h5⟩
end Go.Proofs.YtlendfhehhacpaaGreat
