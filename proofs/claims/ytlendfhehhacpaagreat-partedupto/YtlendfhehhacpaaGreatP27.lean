/- A part. -/
import Derived.Test.YtlendfhehhacpaaGreatP24
import Derived.Test.YtlendfhehhacpaaGreatP19
set_option linter.unusedVariables false
set_option linter.unusedSimpArgs false
set_option maxRecDepth 100000
set_option maxHeartbeats 8000000
namespace Go.Proofs.YtlendfhehhacpaaGreat
open Go.RowKit
structure DoAt (w W : World) (r d m b k : Nat) (p : Pg) (f : Int → Value) (i j : Int) (l : Bool) (X : ByteArray) : Prop where
 rd : RdAt W r d p
 rg : RgAt W m f
 p0 : W.cell? ⟨b, 0, none⟩ = some (.int .i64 i)
 p1 : W.cell? ⟨b, 1, none⟩ = some (.int .i64 j)
 p2 : W.cell? ⟨b, 2, none⟩ = some (.bool l)
 x0 : W.cell? ⟨k, 0, none⟩ = some (.string X)
 x1 : W.cell? ⟨k, 1, none⟩ = some (.bool l)
 lb : b < W.heap.size
 lk : k < W.heap.size
 up : Below w.heap.size w W
 lw : w.heap.size < k
def rgW (f : Int → Value) (c : Int) (t : ByteArray) (l : Bool) : Int → Value :=
 if c = 0 then rgSet f 34 (.agg #[.string t, .bool l]) else rgSet (rgSet f 34 (.agg #[.string t, .bool l])) c (.agg #[.string t, .bool l])
def tkn (s : ByteArray) (i j : Nat) (l : Bool) : ByteArray := s.extract i j ++ if l then ⟨#[10]⟩ else ⟨#[]⟩
theorem rWrite_any (m : Nat) (c : Int) (t : ByteArray) (l : Bool) (f : Int → Value) (w : World) (h : RgAt w m f) :
  Calls Tryz.prog 177 #[.map (some m), .int .u8 c, .agg #[.string t, .bool l]] w fun e w' => e = .returned (.tuple #[]) ∧ RgAt w' m (rgW f c t l) ∧ Upd [m] w w' := by
 unfold rgW
 by_cases hr : c = 0
 ·rw [if_pos hr, hr]; exact rWrite_none m t l f w h
 ·rw [if_neg hr]; exact rWrite_named m c t l f w h hr
theorem qt27 {P : Prop} (h : P := by
  refine ⟨RdAt.other (RdAt.other ((((RdAt.alloc H _).below h1).alloc _).drew.below h2) qs qs _) qs qs _, RgAt.other (RgAt.other ((((RgAt.alloc hg _).below h1).alloc _).drew.below h2) (by have := hg.lt; simp; omega) _) (by have := hg.lt; simp; omega) _, hHeld.2.2.1, hHeld.2.2.2.1, hHeld.2.2.2.2, ?_, ?_, ?_, ?_, ?_, by omega⟩
  ·first | (simp; done) | (go_simp; done)
  ·first | (simp; done) | (go_simp; done)
  ·simp; omega
  ·simp <;> omega
  ·repeat exact qB
 ) : P := h
theorem qt32 {P : Prop} (h : P := by
  refine ⟨RdAt.alloc (((RdAt.alloc H _).below h1).drew.below h2) _, RgAt.alloc (((RgAt.alloc hg _).below h1).drew.below h2) _, hHeld.2.2.1, hHeld.2.2.2.1, hHeld.2.2.2.2, ?_, ?_, ?_, ?_, ?_, by omega⟩
  ·first | (simp; done) | (go_simp; done)
  ·first | (simp; done) | (go_simp; done)
  ·simp; omega
  ·simp <;> omega
  ·repeat exact qB
 ) : P := h
theorem qt59 {P : Prop} (h : P := by
  intro ww
  have := tNothing_any i j l ww
  rw [show (((i : Int) == j) && !l) = false by
   rw [Bool.and_eq_false_iff]
   by_cases e : i = j
   ·right; cases l
    ·exact absurd ⟨e, rfl⟩ hne
    ·rfl
   ·left; simp; omega] at this
  exact this
 ) : P := h
theorem mDo_write (v : Int) (r d m : Nat) (p : Pg) (i j : Nat) (l : Bool) (t2 : ByteArray) (q : Nat) (f : Int → Value) (w : World) (h : RdAt w r d p) (hg : RgAt w m f) (hm : p.regs = .map (some m)) (hmr : m ≠ r) (hmd : m ≠ d) (hs : p.t.size ≤ 1000) (hs2 : t2.size ≤ 1000) (hij : i ≤ j) (hj : j ≤ p.t.size) (hne : ¬ (i = j ∧ l = false)) (hq : q ≤ t2.size) (hv : v = 100 ∨ v = 121)
  (HD : qH 174 #[.int .u8 v, .string p.t, .agg #[.int .i64 i, .int .i64 j, .bool l], .int .i64 p.pl] (.tuple #[.string t2, .int .i64 q])) :
  Calls Tryz.prog 146 #[.pointer (some ⟨r, 0, none⟩), .int .u8 v, .agg #[.int .i64 i, .int .i64 j, .bool l]] w fun e w' => e = .returned (.int .i64 (if v = 121 then 1 else 2)) ∧ RdAt w' r d { p with t := t2, mode := 0, anchor := 0, pl := Nib.clm t2 q } ∧ RgAt w' m (rgW f p.reg (tkn p.t i j l) l) ∧ Upd [d, m] w w' := by
 have HN : qH 172 #[.agg #[.int .i64 i, .int .i64 j, .bool l]] (.bool false) := by
  exact qt59
 have HT : qH 173 #[.string p.t, .agg #[.int .i64 i, .int .i64 j, .bool l]] (.agg #[.string (tkn p.t i j l), .bool l]) := fun ww => mTaken_piece p.t i j l ww hs hij hj
 generalize tkn p.t i j l = X at *
 have HBc : Hid (∀ ww, RdAt ww r d p → Calls Tryz.prog 175 #[.pointer (some ⟨d, 0, none⟩), .string t2] ww fun e w' => e = .returned (.bool true) ∧ RdAt w' r d { p with t := t2 } ∧ Upd [d] ww w') := fun ww hh => mBecome r d p t2 ww hh hs2
 have hml := hg.lt
 have HWr : Hid (∀ ww, RgAt ww m f → Calls Tryz.prog 177 #[.map (some m), .int .u8 p.reg, .agg #[.string X, .bool l]] ww fun e w' => e = .returned (.tuple #[]) ∧ RgAt w' m (rgW f p.reg X l) ∧ Upd [m] ww w') := fun ww hh => rWrite_any m p.reg X l f ww hh
 generalize rgW f p.reg X l = f2 at *
 have HWs : qH 176 #[.int .u8 v] (.bool true) := fun ww => by
  rcases hv with hv | hv <;> subst hv <;> exact vWrites_any _ ww
 have HTN : Hid (∀ ww, RdAt ww r d { p with t := t2 } → Calls Tryz.prog 136 #[.pointer (some ⟨d, 0, none⟩)] ww fun e w' => e = .returned (.tuple #[]) ∧ RdAt w' r d { p with t := t2, mode := 0, anchor := 0 } ∧ Upd [d] ww w') := fun ww hh => mToNormal r d { p with t := t2 } ww hh
 have HMv : Hid (∀ ww, RdAt ww r d { p with t := t2, mode := 0, anchor := 0 } → Calls Tryz.prog 179 #[.pointer (some ⟨d, 0, none⟩), .int .i64 q] ww fun e w' => e = .returned (.tuple #[]) ∧ RdAt w' r d { p with t := t2, mode := 0, anchor := 0, pl := Nib.clm t2 q } ∧ Upd [d] ww w') := fun ww hh => mMoveTo r d { p with t := t2, mode := 0, anchor := 0 } q q ww hh hs2 rfl hq
 have v99 : (v == 99) = false := by simp; omega
 have hO : (v = 100 ∧ (if v = 121 then (1 : Int) else 2) = 2) ∨ (v = 121 ∧ (if v = 121 then (1 : Int) else 2) = 1) := by
  rcases hv with hv | hv <;> subst hv <;> simp
 generalize (if v = 121 then (1 : Int) else 2) = O at *
 have v99' : (v != 99) = true := by simp; omega
 generalize hP6 : ({ p with t := t2, mode := 0, anchor := 0, pl := Nib.clm t2 q } : Pg) = P6 at *
 generalize hP5 : ({ p with t := t2, mode := 0, anchor := 0 } : Pg) = P5 at *
 generalize hP4 : ({ p with t := t2 } : Pg) = P4 at *
 have q4 : P4.regs = .map (some m) := by rw [← hP4]; exact hm
 have q4r : P4.reg = p.reg := by rw [← hP4]
 clear hP4 hP5 hP6
 have H := h
 obtain ⟨c0, c1, c2, c3, c4, c5, c6, c7, c8, c9, fz, lt⟩ := h.dk
 obtain ⟨b0, b1, b2, b3, b4, b5, bz, bl⟩ := h.bg
 clear c2 c3 c4 c5 c6 c7 c8 c9 b1 b2 b3 b4 b5 h
 have l1 : r < w.heap.size + 1 := by omega
 have l2 : d < w.heap.size + 1 := by omega
 have l3 : ¬ w.heap.size = d := by omega
 have l4 : ¬ w.heap.size = r := by omega
 go_enter Tryz.func146, Tryz.ntmps146
 go_wp2_with fail
 refine (HN.out _).mono ?_
 rintro e w1 ⟨rfl, h1⟩
 obtain ⟨hc1, hf1, hz1⟩ := qb h1
 try simp at hz1
 have d0 : w1.cell? ⟨d, 0, none⟩ = some (.string p.t) := by rw [hc1 _ _ qs]; go_simp
 have d1 : w1.cell? ⟨d, 1, none⟩ = some (.int .i64 p.pl) := by rw [hc1 _ _ qs]; go_simp
 have r0 : w1.cell? ⟨r, 0, none⟩ = some (.pointer (some ⟨d, 0, none⟩)) := by rw [hc1 _ _ qs]; go_simp
 have p0 : w1.cell? ⟨w.heap.size, 0, none⟩ = some (.int .i64 i) := by rw [hc1 _ _ qi]; simp
 have p1 : w1.cell? ⟨w.heap.size, 1, none⟩ = some (.int .i64 j) := by rw [hc1 _ _ qi]; simp
 have p2 : w1.cell? ⟨w.heap.size, 2, none⟩ = some (.bool l) := by rw [hc1 _ _ qi]; simp
 have k1 : r < w1.heap.size := by omega
 have k2 : d < w1.heap.size := by omega
 have k3 : w.heap.size < w1.heap.size := by omega
 clear hc1 hf1
 go_wp2_with fail
 go_region_held3 (fun ww => ww.cell? ⟨r, 0, none⟩ = some (.pointer (some ⟨d, 0, none⟩)) ∧ ww.cell? ⟨d, 0, none⟩ = some (.string p.t) ∧ ww.cell? ⟨w.heap.size, 0, none⟩ = some (.int .i64 i) ∧ ww.cell? ⟨w.heap.size, 1, none⟩ = some (.int .i64 j) ∧ ww.cell? ⟨w.heap.size, 2, none⟩ = some (.bool l)) (exact qK) (first | (go_at_call 173; with_reducible refine Calls.mono (HT.out (w1.alloc (.cells #[.string ⟨#[]⟩, .bool false] 99)).drew) ?_; rintro r2 w2 ⟨rfl, h2⟩; obtain ⟨hc2, hf2, hz2⟩ := qb h2; simp at hz2; have hn0 : w2.cell? ⟨w1.heap.size, 0, none⟩ = some (.string ⟨#[]⟩) := (hc2 (w1.heap.size) 0 qi).trans qi; have hn1 : w2.cell? ⟨w1.heap.size, 1, none⟩ = some (.bool false) := (hc2 (w1.heap.size) 1 qi).trans qi; have hq2 : ∀ o, w2.frozen? ⟨w1.heap.size, o, none⟩ = false := (fun o => (hf2 (w1.heap.size) o qi).trans qi); clear hc2 hf2) | (go_at_call 173; with_reducible refine Calls.mono (HT.out w1.drew) ?_; rintro r2 w2 ⟨rfl, h2⟩; have hz2 := h2.size; simp at hz2))
 rename_i hHeld
 have E : DoAt w (w2.alloc (.cells #[.string X, .bool l] 99)) r d m w.heap.size w2.heap.size p f i j l X := by
  exact qt32
 clear hHeld h1 h2 hz2 hg H d0 d1 r0 p0 p1 p2
 generalize (w2.alloc (.cells #[.string X, .bool l] 99)) = W at *
 generalize w2.heap.size = k at *
 rotate_left
 rename_i hHeld
 have E : DoAt w ((w2.setCell ⟨w1.heap.size, 0, none⟩ (.string X)).setCell ⟨w1.heap.size, 1, none⟩ (.bool l)) r d m w.heap.size w1.heap.size p f i j l X := by
  exact qt27
 clear hHeld h1 h2 hz2 hg H d0 d1 r0 p0 p1 p2
 generalize ((w2.setCell ⟨w1.heap.size, 0, none⟩ (.string X)).setCell ⟨w1.heap.size, 1, none⟩ (.bool l)) = W at *
 generalize w1.heap.size = k at *
 rotate_left
 all_goals
  obtain ⟨rd, rg, p0, p1, p2, x0, x1, lb, lk, up, lw⟩ := E
  have H := rd
  have r0 := rd.bg.c0
  have d0 := rd.dk.c0
  have d1 := rd.dk.c1
  have hlr := rd.bg.lt
  have hld := rd.dk.lt
  go_wp2_with fail
  go_region_held3 (fun ww => ww.cell? ⟨r, 0, none⟩ = some (.pointer (some ⟨d, 0, none⟩)) ∧ ww.cell? ⟨d, 0, none⟩ = some (.string p.t) ∧ ww.cell? ⟨d, 1, none⟩ = some (.int .i64 p.pl) ∧ ww.cell? ⟨w.heap.size, 0, none⟩ = some (.int .i64 i) ∧ ww.cell? ⟨w.heap.size, 1, none⟩ = some (.int .i64 j) ∧ ww.cell? ⟨w.heap.size, 2, none⟩ = some (.bool l)) (exact qK) ((go_at_call 174; refine Calls.mono (HD.out _) ?_; rintro r3 w3 ⟨rfl, h3⟩; have hz3 := h3.size; (try simp at hz3); (try have ⟨hl3_0, hk3_0⟩ := qL d w3.heap.size); (try have ⟨hl3_1, hk3_1⟩ := qL r w3.heap.size); (try have ⟨hl3_2, hk3_2⟩ := qL w.heap.size w3.heap.size)))
  have H3 := (rd.drew).below h3
  have G3 := (rg.drew).below h3
  have y0 := memLater h3 (memLater ((Below.refl _ _).drew) x0)
  have y1 := memLater h3 (memLater ((Below.refl _ _).drew) x1)
  have up3 : Below w.heap.size w w3 := by
   repeat exact qB
  clear rd rg x0 x1 up h3 H r0 d0 d1
  go_wp2_with fail
  refine Calls.mono (HBc.out _ H3) ?_
  rintro e4 w4 ⟨rfl, H4, u4⟩
  have G4 : RgAt w4 m f := G3.of_block (u4.block m G3.lt (by simp; exact hmd))
  have z0 := u4.was y0 qs
  have z1 := u4.was y1 qs
  go_wp2_with fail
  refine Calls.mono (HWs.out _) ?_
  rintro e5 w5 ⟨rfl, h5⟩
  have H5 := H4.below h5
  have G5 := G4.below h5
  have x0 := memLater h5 z0
  have x1 := memLater h5 z1
  have r0 := H5.bg.c0
  have r1 := H5.bg.c1
  have d4 := H5.dk.c4
  rw [q4] at d4
  rw [q4r] at r1
  go_wp2_with fail
  go_region_held3 (fun ww => ww.cell? ⟨r, 0, none⟩ = some (.pointer (some ⟨d, 0, none⟩)) ∧ ww.cell? ⟨r, 1, none⟩ = some (.int .u8 p.reg) ∧ ww.cell? ⟨d, 4, none⟩ = some (.map (some m)) ∧ ww.cell? ⟨k, 0, none⟩ = some (.string X) ∧ ww.cell? ⟨k, 1, none⟩ = some (.bool l)) (exact qK) ((go_at_call 177; with_reducible refine Calls.mono (HWr.out _ (RgAt.drew G5)) ?_; rintro e6 w6 ⟨rfl, G6, u6⟩; have a0 := u6.was (memLater ((Below.refl _ _).drew) r0) (by simp; exact Ne.symm hmr); have a1 := u6.was (memLater ((Below.refl _ _).drew) r1) (by simp; exact Ne.symm hmr); have a2 := u6.was (memLater ((Below.refl _ _).drew) d4) (by simp; exact Ne.symm hmd); have a3 := u6.was (memLater ((Below.refl _ _).drew) x0) qs; have a4 := u6.was (memLater ((Below.refl _ _).drew) x1) qs))
  have H6 : RdAt w6 r d P4 := (H5.drew).upd u6 (by simp; exact Ne.symm hmr) (by simp; exact Ne.symm hmd)
  have U6 : Upd [d, m] w w6 := by
   refine Upd.trans (Upd.drew (Upd.below (Upd.trans (Upd.of_below up3) (Upd.mono u4 qi)) h5)) (Upd.mono u6 qi)
  clear G5 r0 r1 d4 x0 x1 z0 z1 y0 y1 G4 G3 H3 H4 H5 u4 h5 u6 up3
  go_wp2_with fail
  refine Calls.mono (HTN.out _ H6) ?_
  rintro e7 w7 ⟨rfl, H7, u7⟩
  have G7 : RgAt w7 m f2 := G6.of_block (u7.block m G6.lt (by simp; exact hmd))
  have r7 := H7.bg.c0
  go_wp2_with fail
  refine Calls.mono (HMv.out _ H7) ?_
  rintro e8 w8 ⟨rfl, H8, u8⟩
  have G8 : RgAt w8 m f2 := G7.of_block (u8.block m G7.lt (by simp; exact hmd))
  have U8 : Upd [d, m] w w8 := (U6.trans (u7.mono qi)).trans (u8.mono qi)
  clear u7 u8 U6 H7 H6 G7 G6
  rcases hO with ⟨hO, hO'⟩ | ⟨hO, hO'⟩
  ·subst hO hO'
   go_wp2
   go_ret
   exact ⟨rfl, H8, G8, U8⟩
  ·subst hO hO'
   go_wp2
   go_ret
   exact ⟨rfl, H8, G8, U8⟩
structure InAt (w W : World) (r d k : Nat) (p : Pg) (LB LI : Nat) : Prop where
 rd : RdAt W r d p
 g0 : W.cell? ⟨w.heap.size, 0, none⟩ = some (.pointer (some ⟨d, 0, none⟩))
 tw : Two W k LB LI
 up : Below w.heap.size w W
 lg : w.heap.size < W.heap.size
 lk : w.heap.size < k
def inBl (p : Pg) : ByteArray := p.t.extract (Nib.beg p.t p.pl) (min (Nib.ind p.t p.pl) p.pl)
theorem qt95 {P : Prop} (h : P := by
  rw [← hw0] at h1
  repeat (with_reducible first | exact Below.refl _ _ | refine b_s ?_ _ | refine b_a ?_ _ | refine Below.drew ?_ | refine below_drewN ?_ _ | refine b_t ?_ h2 | refine b_t ?_ h1)
 ) : P := h
theorem iIndent (r d : Nat) (p : Pg) (w : World) (h : RdAt w r d p) (hs : p.t.size ≤ 1000) (hk : p.pl ≤ p.t.size) :
  qC 307 #[.agg #[.pointer (some ⟨d, 0, none⟩)]] w (.string (inBl p)) := by
 have HL : Hid (∀ ww, RdAt ww r d p → qC 181 #[.pointer (some ⟨d, 0, none⟩)] ww (.agg #[.int .i64 (Nib.beg p.t p.pl), .int .i64 (Nib.fin p.t p.pl)])) := fun ww hh => mLine r d p ww hh hs hk
 have HI : qH 187 #[.string p.t, .agg #[.int .i64 (Nib.beg p.t p.pl), .int .i64 (Nib.fin p.t p.pl)]] (.agg #[.int .i64 (Nib.beg p.t p.pl), .int .i64 (Nib.ind p.t p.pl)]) := fun ww => tIndent_any p.t _ _ p.pl ww hs hk rfl rfl
 have h1 := Nib.beg_le p.t p.pl
 have h2 : Nib.beg p.t p.pl ≤ Nib.ind p.t p.pl := Nib.up_ge _ _ _
 have HO : qH 87 #[.string p.t, .agg #[.int .i64 (Nib.beg p.t p.pl), .int .i64 ((((min (Nib.ind p.t p.pl) p.pl) : Nat) : Int))]] (.string (inBl p)) := fun ww => tOf_any p.t _ _ _ _ ww hs rfl rfl qo qo
 have H := h
 have d0 := h.dk.c0
 have d1 := h.dk.c1
 have hld := h.dk.lt
 have hmn : min ((Nib.ind p.t p.pl : Nat) : Int) (p.pl : Int) = ((min (Nib.ind p.t p.pl) p.pl : Nat) : Int) := by omega
 generalize inBl p = X at *
 have hc : (p.pl < Nib.ind p.t p.pl ∧ min (Nib.ind p.t p.pl) p.pl = p.pl) ∨ (¬ p.pl < Nib.ind p.t p.pl ∧ min (Nib.ind p.t p.pl) p.pl = Nib.ind p.t p.pl) := by omega
 generalize hM : min (Nib.ind p.t p.pl) p.pl = M at *
 generalize Nib.beg p.t p.pl = LB at *
 generalize Nib.fin p.t p.pl = LE at *
 generalize Nib.ind p.t p.pl = LI at *
 clear h hmn h1 h2 hM
 have HL2 : Hid (∀ ww, RdAt ww r d p → qC 181 #[.pointer (some ⟨d, 0, none⟩)] ww (.agg #[.int .i64 (LB), .int .i64 (LE)])) := HL
 rcases hc with ⟨hc, hM⟩ | ⟨hc, hM⟩
 all_goals
  rw [hM] at HO
  clear hM M
  go_enter Tryz.func307, Tryz.ntmps307
  have g0 : (w.alloc (.cells #[.pointer (some ⟨d, 0, none⟩)] 80)).cell? ⟨w.heap.size, 0, none⟩ = some (.pointer (some ⟨d, 0, none⟩)) := by simp
  have H0 : RdAt (w.alloc (.cells #[.pointer (some ⟨d, 0, none⟩)] 80)) r d p := H.alloc _
  have d0' := H0.dk.c0
  have d1' := H0.dk.c1
  have hl0 := H0.dk.lt
  generalize hw0 : (w.alloc (.cells #[.pointer (some ⟨d, 0, none⟩)] 80)) = w0 at *
  have kz : w.heap.size < w0.heap.size := by rw [← hw0]; simp
  have HLw : Hid (∀ ww, (ww = w0.drew ∨ ww = (w0.alloc (.cells #[.int .i64 0, .int .i64 0] 128)).drew) → qC 181 #[.pointer (some ⟨d, 0, none⟩)] ww (.agg #[.int .i64 (LB), .int .i64 (LE)])) := by
   rintro ww (rfl | rfl)
   ·exact HL2.out _ H0.drew
   ·exact HL2.out _ (H0.alloc _).drew
  go_wp2_with fail
  go_region_held3 (fun ww => ww.cell? ⟨w.heap.size, 0, none⟩ = some (.pointer (some ⟨d, 0, none⟩)) ∧ ww.cell? ⟨d, 0, none⟩ = some (.string p.t)) ((refine ⟨?_, ?_⟩ <;> (first | (go_simp; done) | ((repeat (first | with_reducible assumption | (with_reducible refine memLater ((Below.refl _ _).alloc (Nat.le_refl _) _) ?_) | (with_reducible refine memLater ((Below.refl _ _).drew) ?_) | (with_reducible refine memLater h1 ?_) | (with_reducible refine memLater h2 ?_) | (with_reducible refine (memSet qo).trans ?_) | (go_simp; done))); done)))) (first | (go_at_call 181; with_reducible refine Calls.mono (HLw.out ((w0.alloc (.cells #[.int .i64 0, .int .i64 0] 128)).drew) (by first | exact Or.inl rfl | exact Or.inr rfl)) ?_; rintro r1 w1 ⟨rfl, h1⟩; have hz1 := h1.size; (try simp at hz1); (try have ⟨hl1_0, hk1_0⟩ := qL d w1.heap.size); (try have ⟨hl1_1, hk1_1⟩ := qL w.heap.size w1.heap.size); have nv0_0 : w1.cell? ⟨w0.heap.size, 0, none⟩ = some (.int .i64 0) := ((bcell h1).1 _ _ qO).trans qi; have nv0_1 : w1.cell? ⟨w0.heap.size, 1, none⟩ = some (.int .i64 0) := ((bcell h1).1 _ _ qO).trans qi; have nz0 : ∀ o, w1.frozen? ⟨w0.heap.size, o, none⟩ = false := fun o => ((bcell h1).2 _ o qO).trans qi; have nl0 : w0.heap.size < w1.heap.size := qo) | (go_at_call 181; with_reducible refine Calls.mono (HLw.out (w0.drew) (by first | exact Or.inl rfl | exact Or.inr rfl)) ?_; rintro r1 w1 ⟨rfl, h1⟩; have hz1 := h1.size; (try simp at hz1); (try have ⟨hl1_0, hk1_0⟩ := qL d w1.heap.size); (try have ⟨hl1_1, hk1_1⟩ := qL w.heap.size w1.heap.size)) | (go_at_call 187; with_reducible refine Calls.mono (HI.out (w1.alloc (.cells #[.int .i64 0, .int .i64 0] 128))) ?_; rintro r2 w2 ⟨rfl, h2⟩; have hz2 := h2.size; (try simp at hz2); (try have ⟨hl2_0, hk2_0⟩ := qL d w2.heap.size); (try have ⟨hl2_1, hk2_1⟩ := qL w.heap.size w2.heap.size); (try have nv0_0 := memLater h2 nv0_0); (try have nv0_1 := memLater h2 nv0_1); (try have nz0 : ∀ o, w2.frozen? ⟨w0.heap.size, o, none⟩ = false := fun o => ((bcell h2).2 _ o qO).trans (nz0 o)); (try have nl0 : w0.heap.size < w2.heap.size := qo); have nv1_0 : w2.cell? ⟨w1.heap.size, 0, none⟩ = some (.int .i64 0) := ((bcell h2).1 _ _ qO).trans qi; have nv1_1 : w2.cell? ⟨w1.heap.size, 1, none⟩ = some (.int .i64 0) := ((bcell h2).1 _ _ qO).trans qi; have nz1 : ∀ o, w2.frozen? ⟨w1.heap.size, o, none⟩ = false := fun o => ((bcell h2).2 _ o qO).trans qi; have nl1 : w1.heap.size < w2.heap.size := qo) | (go_at_call 187; with_reducible refine Calls.mono (HI.out w1) ?_; rintro r2 w2 ⟨rfl, h2⟩; have hz2 := h2.size; (try simp at hz2); (try have ⟨hl2_0, hk2_0⟩ := qL d w2.heap.size); (try have ⟨hl2_1, hk2_1⟩ := qL w.heap.size w2.heap.size); (try have nv0_0 := memLater h2 nv0_0); (try have nv0_1 := memLater h2 nv0_1); (try have nz0 : ∀ o, w2.frozen? ⟨w0.heap.size, o, none⟩ = false := fun o => ((bcell h2).2 _ o qO).trans (nz0 o)); (try have nl0 : w0.heap.size < w2.heap.size := qo)))
  have E : InAt w (w2.alloc (.cells #[.int .i64 LB, .int .i64 LI] 128)) r d w2.heap.size p LB LI := by
   refine ⟨RdAt.alloc ((H0.drew.below h1).below h2) _, memLater ((Below.refl _ _).alloc (Nat.le_refl _) _) (memLater h2 (memLater h1 (memLater ((Below.refl _ _).drew) g0))), Two.new _ _ _ _, ?_, by simp; omega, by omega⟩
   exact qt95
  generalize (w2.alloc (.cells #[.int .i64 LB, .int .i64 LI] 128)) = W at *
  generalize w2.heap.size = k at *
  rotate_left
  have E : InAt w ((w2.setCell ⟨w1.heap.size, 0, none⟩ (.int .i64 LB)).setCell ⟨w1.heap.size, 1, none⟩ (.int .i64 LI)) r d w1.heap.size p LB LI := by
   have t2 : Two w2 w1.heap.size 0 0 := ⟨nv1_0, nv1_1, nz1, nl1⟩
   have R2 : RdAt w2 r d p := ((H0.drew.below h1).alloc _).below h2
   refine ⟨RdAt.other (RdAt.other R2 (by simp; have := H.bg.lt; omega) qs _) (by simp; have := H.bg.lt; omega) qs _, ?_, Two.set1 (Two.set0 t2 _) _, ?_, by simp [World.setCell]; omega, by omega⟩
   ·exact (memSet qo).trans ((memSet qo).trans (memLater h2 (memLater ((Below.refl _ _).alloc (Nat.le_refl _) _) (memLater h1 (memLater ((Below.refl _ _).drew) g0)))))
   ·exact qt95
  generalize ((w2.setCell ⟨w1.heap.size, 0, none⟩ (.int .i64 LB)).setCell ⟨w1.heap.size, 1, none⟩ (.int .i64 LI)) = W at *
  generalize w1.heap.size = k at *
  rotate_left
  have E : InAt w ((w2.setCell ⟨w0.heap.size, 0, none⟩ (.int .i64 LB)).setCell ⟨w0.heap.size, 1, none⟩ (.int .i64 LI)) r d w0.heap.size p LB LI := by
   have t2 : Two w2 w0.heap.size 0 0 := ⟨nv0_0, nv0_1, nz0, nl0⟩
   have R2 : RdAt w2 r d p := ((H0.alloc _).drew.below h1).below h2
   refine ⟨RdAt.other (RdAt.other R2 (by simp; have := H.bg.lt; omega) qs _) (by simp; have := H.bg.lt; omega) qs _, ?_, Two.set1 (Two.set0 t2 _) _, ?_, by simp [World.setCell]; omega, by omega⟩
   ·exact (memSet qo).trans ((memSet qo).trans (memLater h2 (memLater h1 (memLater ((Below.refl _ _).drew) (memLater ((Below.refl _ _).alloc (Nat.le_refl _) _) g0)))))
   ·exact qt95
  generalize ((w2.setCell ⟨w0.heap.size, 0, none⟩ (.int .i64 LB)).setCell ⟨w0.heap.size, 1, none⟩ (.int .i64 LI)) = W at *
  generalize w0.heap.size = k at *
  rotate_left
  all_goals
   obtain ⟨rd, e0, tw, up, lg, lk⟩ := E
   have f0 := rd.dk.c0
   have f1 := rd.dk.c1
   have fl := rd.dk.lt
   have ⟨x0, x1, xz, xl⟩ := tw
   have ne1 : ¬ k = w.heap.size := by omega
   have ne2 : ¬ k = d := by omega
   go_wp2_with fail
   refine wp_region_held_drew (S := fun ww => ww.cell? ⟨w.heap.size, 0, none⟩ = some (.pointer (some ⟨d, 0, none⟩)) ∧ ww.cell? ⟨d, 1, none⟩ = some (.int .i64 p.pl)) qk ?_ (fun hHeld => ?_)
   ·exact ⟨memLater ((Below.refl _ _).drew) e0, memLater ((Below.refl _ _).drew) f1⟩
   refine qT 0 ?_
   simp only [Act.put, qP]
   refine qT 2 ?_
   simp only [Act.put, qP]
   refine qT 3 ?_
   simp only [Act.put, qP]
   refine qT 4 ?_
   simp only [Act.put, qP]
   refine qT 5 ?_
   simp only [Act.put, qP]
   refine qT 6 ?_
   simp only [Act.put, qP]
   have x1' : W.drew.cell? ⟨k, 1, none⟩ = some (.int .i64 LI) := memLater ((Below.refl _ _).drew) x1
   refine qR 1 fun K hK => ?_
   rw [if_pos (by rfl)]
   go_wp2_with fail
   refine hK.out _ _ ?_ (fun hHeld => ?_)
   ·exact ⟨memLater ((Below.refl _ _).drew) e0, memLater ((Below.refl _ _).drew) f1⟩
   clear hK K
   try simp only [Act.put, qP]
   refine qT 7 ?_
   simp only [Act.put, qP]
   refine qT 8 ?_
   simp only [Act.put, qP]
   refine qR 9 fun K hK => ?_
   rw [if_pos (by rfl)]
   go_wp2_with fail
   refine hK.out _ _ ?_ (fun hHeld => ?_)
   ·exact ⟨by go_simp, by go_simp⟩
   clear hK K
   try simp only [Act.put, qP]
   refine wpAnyH_done qk ?_ _
   first
   | (
     have R3 : RdAt (W.setCell ⟨k, 1, none⟩ (.int .i64 p.pl)).drew r d p := (RdAt.other rd (by simp; have := H.bg.lt; omega) qs _).drew
     have y0 : (W.setCell ⟨k, 1, none⟩ (.int .i64 p.pl)).drew.cell? ⟨k, 0, none⟩ = some (.int .i64 LB) := (by go_simp)
     have y1 : (W.setCell ⟨k, 1, none⟩ (.int .i64 p.pl)).drew.cell? ⟨k, 1, none⟩ = some (.int .i64 p.pl) := (by go_simp)
     have y2 : (W.setCell ⟨k, 1, none⟩ (.int .i64 p.pl)).drew.cell? ⟨w.heap.size, 0, none⟩ = some (.pointer (some ⟨d, 0, none⟩)) := (by go_simp)
     have y3 : (W.setCell ⟨k, 1, none⟩ (.int .i64 p.pl)).drew.cell? ⟨d, 0, none⟩ = some (.string p.t) := R3.dk.c0
     have B3 : Below w.heap.size w (W.setCell ⟨k, 1, none⟩ (.int .i64 p.pl)).drew := (Below.setCell up qs _).drew
     have z1 : w.heap.size < (W.setCell ⟨k, 1, none⟩ (.int .i64 p.pl)).drew.heap.size := (by simp [World.setCell]; omega)
     have z2 : d < (W.setCell ⟨k, 1, none⟩ (.int .i64 p.pl)).drew.heap.size := R3.dk.lt
     have z3 : k < (W.setCell ⟨k, 1, none⟩ (.int .i64 p.pl)).drew.heap.size := (by simp [World.setCell]; omega)
     generalize (W.setCell ⟨k, 1, none⟩ (.int .i64 p.pl)).drew = W3 at *
     go_wp2_with fail
     go_region_held3 (fun ww => ww.cell? ⟨w.heap.size, 0, none⟩ = some (.pointer (some ⟨d, 0, none⟩)) ∧ ww.cell? ⟨d, 0, none⟩ = some (.string p.t) ∧ ww.cell? ⟨k, 0, none⟩ = some (.int .i64 LB) ∧ ww.cell? ⟨k, 1, none⟩ = some (.int .i64 p.pl)) ((refine ⟨?_, ?_, ?_, ?_⟩ <;> (first | (go_simp; done) | ((repeat (first | with_reducible assumption | (with_reducible refine memLater ((Below.refl _ _).alloc (Nat.le_refl _) _) ?_) | (with_reducible refine memLater ((Below.refl _ _).drew) ?_) | (with_reducible refine memLater h4 ?_) | (with_reducible refine (memSet qo).trans ?_) | (go_simp; done))); done)))) ((go_at_call 87; refine Calls.mono (HO.out _) ?_; rintro r4 w4 ⟨rfl, h4⟩; have hz4 := h4.size; (try simp at hz4); (try have ⟨hl4_0, hk4_0⟩ := qL d w4.heap.size); (try have ⟨hl4_1, hk4_1⟩ := qL k w4.heap.size); (try have ⟨hl4_2, hk4_2⟩ := qL w.heap.size w4.heap.size)))
     go_wp2
     go_ret
     refine ⟨rfl, ?_⟩
     repeat (with_reducible first | exact Below.refl _ _ | refine b_s ?_ _ | refine b_a ?_ _ | refine Below.drew ?_ | refine below_drewN ?_ _ | refine b_t ?_ h4 | refine b_t ?_ B3)
     )
   | (
     have R3 : RdAt (W.setCell ⟨k, 1, none⟩ (.int .i64 LI)).drew r d p := (RdAt.other rd (by simp; have := H.bg.lt; omega) qs _).drew
     have y0 : (W.setCell ⟨k, 1, none⟩ (.int .i64 LI)).drew.cell? ⟨k, 0, none⟩ = some (.int .i64 LB) := (by go_simp)
     have y1 : (W.setCell ⟨k, 1, none⟩ (.int .i64 LI)).drew.cell? ⟨k, 1, none⟩ = some (.int .i64 LI) := (by go_simp)
     have y2 : (W.setCell ⟨k, 1, none⟩ (.int .i64 LI)).drew.cell? ⟨w.heap.size, 0, none⟩ = some (.pointer (some ⟨d, 0, none⟩)) := (by go_simp)
     have y3 : (W.setCell ⟨k, 1, none⟩ (.int .i64 LI)).drew.cell? ⟨d, 0, none⟩ = some (.string p.t) := R3.dk.c0
     have B3 : Below w.heap.size w (W.setCell ⟨k, 1, none⟩ (.int .i64 LI)).drew := (Below.setCell up qs _).drew
     have z1 : w.heap.size < (W.setCell ⟨k, 1, none⟩ (.int .i64 LI)).drew.heap.size := (by simp [World.setCell]; omega)
     have z2 : d < (W.setCell ⟨k, 1, none⟩ (.int .i64 LI)).drew.heap.size := R3.dk.lt
     have z3 : k < (W.setCell ⟨k, 1, none⟩ (.int .i64 LI)).drew.heap.size := (by simp [World.setCell]; omega)
     generalize (W.setCell ⟨k, 1, none⟩ (.int .i64 LI)).drew = W3 at *
     go_wp2_with fail
     go_region_held3 (fun ww => ww.cell? ⟨w.heap.size, 0, none⟩ = some (.pointer (some ⟨d, 0, none⟩)) ∧ ww.cell? ⟨d, 0, none⟩ = some (.string p.t) ∧ ww.cell? ⟨k, 0, none⟩ = some (.int .i64 LB) ∧ ww.cell? ⟨k, 1, none⟩ = some (.int .i64 LI)) ((refine ⟨?_, ?_, ?_, ?_⟩ <;> (first | (go_simp; done) | ((repeat (first | with_reducible assumption | (with_reducible refine memLater ((Below.refl _ _).alloc (Nat.le_refl _) _) ?_) | (with_reducible refine memLater ((Below.refl _ _).drew) ?_) | (with_reducible refine memLater h4 ?_) | (with_reducible refine (memSet qo).trans ?_) | (go_simp; done))); done)))) ((go_at_call 87; refine Calls.mono (HO.out _) ?_; rintro r4 w4 ⟨rfl, h4⟩; have hz4 := h4.size; (try simp at hz4); (try have ⟨hl4_0, hk4_0⟩ := qL d w4.heap.size); (try have ⟨hl4_1, hk4_1⟩ := qL k w4.heap.size); (try have ⟨hl4_2, hk4_2⟩ := qL w.heap.size w4.heap.size)))
     go_wp2
     go_ret
     refine ⟨rfl, ?_⟩
     repeat (with_reducible first | exact Below.refl _ _ | refine b_s ?_ _ | refine b_a ?_ _ | refine Below.drew ?_ | refine below_drewN ?_ _ | refine b_t ?_ h4 | refine b_t ?_ B3)
     )
end Go.Proofs.YtlendfhehhacpaaGreat
