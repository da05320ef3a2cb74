/- A part. -/
import Derived.Test.YtlendfhehhacpaaGreatQ28
import Derived.Test.YtlendfhehhacpaaGreatQ32
set_option linter.unusedVariables false
set_option linter.unusedSimpArgs false
set_option maxRecDepth 100000
set_option maxHeartbeats 8000000
namespace Go.Proofs.YtlendfhehhacpaaGreat
open Go.RowKit Nib Tryz
theorem mDo_long (v : Int) (r d m : Nat) (p : Pg) (i j : Nat) (l : Bool) (t2 : ByteArray) (q : Nat) (f : Int → Value) (w : World) (h : RdAt w r d p) (hg : RgAt w m f) (hm : p.regs = .map (some m)) (hmr : m ≠ r) (hmd : m ≠ d) (hs : p.t.size ≤ 1000) (hs2 : 1000 < t2.size) (hij : i ≤ j) (hj : j ≤ p.t.size) (hne : ¬ (i = j ∧ l = false)) (hv : v = 62 ∨ v = 60 ∨ v = 117 ∨ v = 85)
  (HD : qH 174 #[.int .u8 v, .string p.t, .agg #[.int .i64 i, .int .i64 j, .bool l], .int .i64 p.pl] (.tuple #[.string t2, .int .i64 q])) :
  Calls Tryz.prog 146 #[.pointer (some ⟨r, 0, none⟩), .int .u8 v, .agg #[.int .i64 i, .int .i64 j, .bool l]] w fun e w' => e = .returned (.int .i64 4) ∧ RdAt w' r d p ∧ RgAt w' m f ∧ Upd [d, m] w w' := by
 have HN : qH 172 #[.agg #[.int .i64 i, .int .i64 j, .bool l]] (.bool false) := by
  exact qt57
 have HT : qH 173 #[.string p.t, .agg #[.int .i64 i, .int .i64 j, .bool l]] (.agg #[.string (tkn p.t i j l), .bool l]) := fun ww => mTaken_piece p.t i j l ww hs hij hj
 generalize tkn p.t i j l = X at *
 have HBc : Hid (∀ ww, Calls Tryz.prog 175 #[.pointer (some ⟨d, 0, none⟩), .string t2] ww fun e w' => e = .returned (.bool false) ∧ w' = ww) := fun ww => mBecome_long r d t2 ww hs2
 have hml := hg.lt
 have v99 : (v == 99) = false := by simp; omega
 have v121 : (v == 121) = false := by simp; omega
 have v99' : (v != 99) = true := by simp; omega
 have H := h
 obtain ⟨c0, c1, c2, c3, c4, c5, c6, c7, c8, c9, fz, lt⟩ := h.dk
 obtain ⟨b0, b1, b2, b3, b4, b5, bz, bl⟩ := h.bg
 clear c2 c3 c4 c5 c6 c7 c8 c9 b1 b2 b3 b4 b5 h
 have l1 : r < w.heap.size + 1 := by omega
 have l2 : d < w.heap.size + 1 := by omega
 have l3 : ¬ w.heap.size = d := by omega
 have l4 : ¬ w.heap.size = r := by omega
 go_enter func146, ntmps146
 go_wp2_with fail
 refine (HN.out _).mono ?_
 rintro e w1 ⟨rfl, h1⟩
 obtain ⟨hc1, hf1, hz1⟩ := qb h1
 try simp at hz1
 have d0 : w1.cell? ⟨d, 0, none⟩ = some (.string p.t) := by rw [hc1 _ _ qs]; go_simp
 have d1 : w1.cell? ⟨d, 1, none⟩ = some (.int .i64 p.pl) := by rw [hc1 _ _ qs]; go_simp
 have r0 : w1.cell? ⟨r, 0, none⟩ = some (.pointer (some ⟨d, 0, none⟩)) := by rw [hc1 _ _ qs]; go_simp
 have p0 : w1.cell? ⟨w.heap.size, 0, none⟩ = some (.int .i64 i) := by rw [hc1 _ _ qi]; simp
 have p1 : w1.cell? ⟨w.heap.size, 1, none⟩ = some (.int .i64 j) := by rw [hc1 _ _ qi]; simp
 have p2 : w1.cell? ⟨w.heap.size, 2, none⟩ = some (.bool l) := by rw [hc1 _ _ qi]; simp
 have k1 : r < w1.heap.size := by omega
 have k2 : d < w1.heap.size := by omega
 have k3 : w.heap.size < w1.heap.size := by omega
 clear hc1 hf1
 go_wp2_with fail
 go_region_held3 (fun ww => ww.cell? ⟨r, 0, none⟩ = some (.pointer (some ⟨d, 0, none⟩)) ∧ ww.cell? ⟨d, 0, none⟩ = some (.string p.t) ∧ ww.cell? ⟨w.heap.size, 0, none⟩ = some (.int .i64 i) ∧ ww.cell? ⟨w.heap.size, 1, none⟩ = some (.int .i64 j) ∧ ww.cell? ⟨w.heap.size, 2, none⟩ = some (.bool l)) (exact qK) (first | (go_at_call 173; with_reducible refine Calls.mono (HT.out (w1.alloc (.cells #[.string ⟨#[]⟩, .bool false] 99)).drew) ?_; rintro r2 w2 ⟨rfl, h2⟩; obtain ⟨hc2, hf2, hz2⟩ := qb h2; simp at hz2; have hn0 : w2.cell? ⟨w1.heap.size, 0, none⟩ = some (.string ⟨#[]⟩) := (hc2 (w1.heap.size) 0 qi).trans qi; have hn1 : w2.cell? ⟨w1.heap.size, 1, none⟩ = some (.bool false) := (hc2 (w1.heap.size) 1 qi).trans qi; have hq2 : ∀ o, w2.frozen? ⟨w1.heap.size, o, none⟩ = false := (fun o => (hf2 (w1.heap.size) o qi).trans qi); clear hc2 hf2) | (go_at_call 173; with_reducible refine Calls.mono (HT.out w1.drew) ?_; rintro r2 w2 ⟨rfl, h2⟩; have hz2 := h2.size; simp at hz2))
 rename_i hHeld
 have E : DoAt w (w2.alloc (.cells #[.string X, .bool l] 99)) r d m w.heap.size w2.heap.size p f i j l X := by
  exact qt33
 clear hHeld h1 h2 hz2 hg H d0 d1 r0 p0 p1 p2
 generalize (w2.alloc (.cells #[.string X, .bool l] 99)) = W at *
 generalize w2.heap.size = k at *
 rotate_left
 rename_i hHeld
 have E : DoAt w ((w2.setCell ⟨w1.heap.size, 0, none⟩ (.string X)).setCell ⟨w1.heap.size, 1, none⟩ (.bool l)) r d m w.heap.size w1.heap.size p f i j l X := by
  exact qt26
 clear hHeld h1 h2 hz2 hg H d0 d1 r0 p0 p1 p2
 generalize ((w2.setCell ⟨w1.heap.size, 0, none⟩ (.string X)).setCell ⟨w1.heap.size, 1, none⟩ (.bool l)) = W at *
 generalize w1.heap.size = k at *
 rotate_left
 all_goals
  obtain ⟨rd, rg, p0, p1, p2, x0, x1, lb, lk, up, lw⟩ := E
  have H := rd
  have r0 := rd.bg.c0
  have d0 := rd.dk.c0
  have d1 := rd.dk.c1
  have hlr := rd.bg.lt
  have hld := rd.dk.lt
  go_wp2_with fail
  go_region_held3 (fun ww => ww.cell? ⟨r, 0, none⟩ = some (.pointer (some ⟨d, 0, none⟩)) ∧ ww.cell? ⟨d, 0, none⟩ = some (.string p.t) ∧ ww.cell? ⟨d, 1, none⟩ = some (.int .i64 p.pl) ∧ ww.cell? ⟨w.heap.size, 0, none⟩ = some (.int .i64 i) ∧ ww.cell? ⟨w.heap.size, 1, none⟩ = some (.int .i64 j) ∧ ww.cell? ⟨w.heap.size, 2, none⟩ = some (.bool l)) (exact qK) ((go_at_call 174; refine Calls.mono (HD.out _) ?_; rintro r3 w3 ⟨rfl, h3⟩; have hz3 := h3.size; (try simp at hz3); (try have ⟨hl3_0, hk3_0⟩ := qL d w3.heap.size); (try have ⟨hl3_1, hk3_1⟩ := qL r w3.heap.size); (try have ⟨hl3_2, hk3_2⟩ := qL w.heap.size w3.heap.size)))
  have H3 := (rd.drew).below h3
  have G3 := (rg.drew).below h3
  have y0 := memLater h3 (memLater ((Below.refl _ _).drew) x0)
  have y1 := memLater h3 (memLater ((Below.refl _ _).drew) x1)
  have up3 : Below w.heap.size w w3 := by
   repeat exact qB
  clear rd rg x0 x1 up h3 H r0 d0 d1
  go_wp2_with fail
  refine Calls.mono (HBc.out _) ?_
  rintro e4 w4 ⟨rfl, rfl⟩
  go_wp2
  go_ret
  exact ⟨rfl, H3, G3, Upd.of_below up3⟩
theorem mSpot (r d : Nat) (p : Pg) (w : World) (h : RdAt w r d p) (hn : p.n ≤ 99) (hb : p.behind ≤ 99) :
  qC 156 #[.agg #[.pointer (some ⟨r, 0, none⟩)]] w (.agg #[.string p.t, .int .i64 p.pl, .int .i64 (max (cnt p) 1 : Nat)]) := by
 have HT : Hid (∀ ww, RdAt ww r d p → qC 161 #[.pointer (some ⟨r, 1, none⟩)] ww (.int .i64 (max (cnt p) 1 : Nat))) := fun ww hh => mTimes r d p ww hh hn hb
 have H := h
 have b0 := h.bg.c0
 have bl := h.bg.lt
 have c0 := h.dk.c0
 have c1 := h.dk.c1
 have dl := h.dk.lt
 have l1 : r < w.heap.size + 1 := by omega
 have l2 : d < w.heap.size + 1 := by omega
 have l3 : r < w.heap.size + 1 + 1 := by omega
 have l4 : d < w.heap.size + 1 + 1 := by omega
 generalize max (cnt p) 1 = N at *
 clear h
 go_enter func156, ntmps156
 have g0 : ((w.alloc (.cells #[.pointer (some ⟨r, 0, none⟩)] 77)).alloc (.cells #[.string ⟨#[]⟩, .int .i64 0, .int .i64 0] 192)).cell? ⟨w.heap.size, 0, none⟩ = some (.pointer (some ⟨r, 0, none⟩)) := by simp
 go_wp2_with fail
 go_region_held3 (fun ww => ww.cell? ⟨w.heap.size, 0, none⟩ = some (.pointer (some ⟨r, 0, none⟩)) ∧ ww.cell? ⟨r, 0, none⟩ = some (.pointer (some ⟨d, 0, none⟩)) ∧ ww.cell? ⟨d, 0, none⟩ = some (.string p.t) ∧ ww.cell? ⟨d, 1, none⟩ = some (.int .i64 p.pl)) (exact qK) ((go_at_call 161; refine Calls.mono (HT.out _ qRd) ?_; rintro r1 w1 ⟨rfl, h1⟩; have hz1 := h1.size; (try simp at hz1); (try have ⟨hl1_0, hk1_0⟩ := qL d w1.heap.size); (try have ⟨hl1_1, hk1_1⟩ := qL r w1.heap.size); (try have ⟨hl1_2, hk1_2⟩ := qL w.heap.size w1.heap.size); obtain ⟨hc1, hf1⟩ := bcell h1; have hn1_0 := (hc1 (w.heap.size + 1) 0 qO).trans (show _ = some (.string ⟨#[]⟩) by simp); have hn1_1 := (hc1 (w.heap.size + 1) 1 qO).trans (show _ = some (.int .i64 0) by simp); have hn1_2 := (hc1 (w.heap.size + 1) 2 qO).trans (show _ = some (.int .i64 0) by simp); have hq1 := fun o => (hf1 (w.heap.size + 1) o qO).trans (show _ = false by simp); have hg1 : w.heap.size + 1 < w1.heap.size := qo; clear hc1 hf1))
 go_wp2
 exact qV (.agg #[.string p.t, .int .i64 p.pl, .int .i64 N]) (by simp [results, results156, go_sem, hn1_0, hn1_1, hn1_2, hq1, hg1]) rfl
def edP (p : Pg) (X : ByteArray) (q : Nat) (is : Bool) : Pg := if is = true ∧ X.size ≤ 1000 then { p with t := X, pl := clm X q } else p
def edO (X : ByteArray) (is : Bool) : Int := if is = true ∧ X.size ≤ 1000 then 2 else 4
theorem mEdit (r d : Nat) (p : Pg) (X : ByteArray) (q : Nat) (is : Bool) (w : World) (h : RdAt w r d p) (hq : is = true → X.size ≤ 1000 → q ≤ X.size) :
  Calls Tryz.prog 155 #[.agg #[.pointer (some ⟨r, 0, none⟩)], .string X, .int .i64 q, .bool is] w fun e w' => e = .returned (.int .i64 (edO X is)) ∧ RdAt w' r d (edP p X q is) ∧ Upd [d] w w' := by
 have H := h
 have b0 := h.bg.c0
 have bl := h.bg.lt
 have dl := h.dk.lt
 have l1 : r < w.heap.size + 1 := by omega
 have l2 : d < w.heap.size + 1 := by omega
 unfold edP edO
 cases is with
 | false =>
  rw [if_neg qi, if_neg qi]
  clear hq
  go_enter func155, ntmps155
  exact qt16
 | true =>
  by_cases hx : X.size ≤ 1000
  ·have hq := hq rfl hx
   rw [if_pos ⟨rfl, hx⟩, if_pos ⟨rfl, hx⟩]
   have HB : Hid (∀ ww, RdAt ww r d p → Calls Tryz.prog 175 #[.pointer (some ⟨d, 0, none⟩), .string X] ww fun e w' => e = .returned (.bool true) ∧ RdAt w' r d { p with t := X } ∧ Upd [d] ww w') := fun ww hh => mBecome r d p X ww hh hx
   have HM : Hid (∀ ww, RdAt ww r d { p with t := X } → Calls Tryz.prog 179 #[.pointer (some ⟨d, 0, none⟩), .int .i64 q] ww fun e w' => e = .returned (.tuple #[]) ∧ RdAt w' r d { p with t := X, pl := clm X q } ∧ Upd [d] ww w') := fun ww hh => mMoveTo r d { p with t := X } q q ww hh hx rfl hq
   generalize hP : ({ p with t := X, pl := clm X q } : Pg) = p2 at *
   generalize hP3 : ({ p with t := X } : Pg) = p3 at *
   clear hP hP3 h hx hq
   go_enter func155, ntmps155
   go_wp2_with fail
   refine Calls.mono (HB.out _ qRd) ?_
   rintro e w1 ⟨rfl, h1, u1⟩
   have r0 := h1.bg.c0
   have g1 : w1.cell? ⟨w.heap.size, 0, none⟩ = some (.pointer (some ⟨r, 0, none⟩)) := u1.was qi qs
   go_wp2_with fail
   refine Calls.mono (HM.out _ h1) ?_
   rintro e w2 ⟨rfl, h2, u2⟩
   exact qt16
  ·rw [if_neg (fun e => hx e.2), if_neg (fun e => hx e.2)]
   have HB : Hid (∀ ww, Calls Tryz.prog 175 #[.pointer (some ⟨d, 0, none⟩), .string X] ww fun e w' => e = .returned (.bool false) ∧ w' = ww) := fun ww => mBecome_long r d X ww qo
   clear hq hx
   go_enter func155, ntmps155
   go_wp2_with fail
   refine (HB.out _).mono ?_
   rintro e w' ⟨rfl, rfl⟩
   exact qt16
def rdN (c : Int) : Int := if c = 0 then 34 else c
theorem rRead (m : Nat) (c : Int) (f : Int → Value) (t : ByteArray) (l : Bool) (w : World) (hg : RgAt w m f) (hf : f (rdN c) = .agg #[.string t, .bool l]) :
  qC 189 #[.map (some m), .int .u8 c] w (.agg #[.string t, .bool l]) := by
 have hl := hg.lt
 unfold rdN at hf
 by_cases h0 : c = 0
 ·rw [if_pos h0] at hf
  subst h0
  have hlk := (hg.alloc (.cells #[.string ⟨#[]⟩, .bool false] 99)).look 34
  rw [hf] at hlk
  clear hf hg
  go_enter func189, ntmps189
  go_wp2
  exact qV (.agg #[.string t, .bool l]) (by simp [results, results189, go_sem]) rfl
 ·rw [if_neg h0] at hf
  have hlk := (hg.alloc (.cells #[.string ⟨#[]⟩, .bool false] 99)).look c
  rw [hf] at hlk
  clear hf hg
  go_enter func189, ntmps189
  go_wp2
  exact qV (.agg #[.string t, .bool l]) (by simp [results, results189, go_sem]) rfl
theorem mBegin_a (r d : Nat) (p : Pg) (w : World) (h : RdAt w r d p) (hs : p.t.size ≤ 1000) (hl : p.pl ≤ p.t.size) :
  Calls Tryz.prog 152 #[.agg #[.pointer (some ⟨r, 0, none⟩)], .int .u8 97] w fun e w' => e = .returned (.int .i64 1) ∧ RdAt w' r d { p with mode := 1, anchor := 0, pl := min (p.pl + 1) (fin p.t p.pl) } ∧ Upd [d] w w' := by
 have HL : Hid (∀ ww, RdAt ww r d p → qC 181 #[.pointer (some ⟨d, 0, none⟩)] ww (.agg #[.int .i64 (beg p.t p.pl), .int .i64 (fin p.t p.pl)])) := fun ww hh => mLine r d p ww hh hs hl
 obtain ⟨MI, hMI, hcase⟩ : ∃ MI : Int, MI = ((min (p.pl + 1) (fin p.t p.pl) : Nat) : Int) ∧ ((MI = (fin p.t p.pl : Nat) ∧ fin p.t p.pl < p.pl + 1 ∧ ((fin p.t p.pl : Nat) : Int) < (p.pl : Int) + 1) ∨ (MI = (p.pl : Int) + 1 ∧ ¬ fin p.t p.pl < p.pl + 1 ∧ ¬ ((fin p.t p.pl : Nat) : Int) < (p.pl : Int) + 1)) := ⟨_, rfl, by omega⟩
 have HI : Hid (∀ ww, RdAt ww r d p → Calls Tryz.prog 178 #[.pointer (some ⟨d, 0, none⟩), .int .i64 MI] ww fun e w' => e = .returned (.int .i64 1) ∧ RdAt w' r d { p with mode := 1, anchor := 0, pl := min (p.pl + 1) (fin p.t p.pl) } ∧ Upd [d] ww w') := by
  intro ww hh
  rw [hMI]
  exact mInsertAt r d p _ ww hh
 have H := h
 have b0 := h.bg.c0
 have bl := h.bg.lt
 have c1 := h.dk.c1
 have dl := h.dk.lt
 have l1 : r < w.heap.size + 1 := by omega
 have l2 : d < w.heap.size + 1 := by omega
 have hwr : IntKind.i64.wrap ((p.pl : Int) + 1) = (p.pl : Int) + 1 := by rw [IntKind.wrap_i64]; omega
 generalize hP : ({ p with mode := 1, anchor := 0, pl := min (p.pl + 1) (fin p.t p.pl) } : Pg) = p2 at *
 generalize beg p.t p.pl = LB at *
 generalize fin p.t p.pl = LE at *
 clear hP hMI
 rcases hcase with ⟨hm, hm1, hm2⟩ | ⟨hm, hm1, hm2⟩
 all_goals
  subst hm
  go_enter func152, ntmps152
  go_wp2_with fail
  refine Calls.mono (HL.out _ qRd) ?_
  rintro e w1 ⟨rfl, h1⟩
  have hz1 := h1.size
  (try simp at hz1)
  have g0 : w1.cell? ⟨w.heap.size, 0, none⟩ = some (.pointer (some ⟨r, 0, none⟩)) := memLater h1 qi
  go_wp2_with fail
  have H1 : RdAt (w1.alloc (.cells #[.int .i64 LB, .int .i64 LE] 128)) r d p := ((H.alloc _).below h1).alloc _
  have g1 : (w1.alloc (.cells #[.int .i64 LB, .int .i64 LE] 128)).cell? ⟨w.heap.size, 0, none⟩ = some (.pointer (some ⟨r, 0, none⟩)) := memLater ((Below.refl _ _).alloc (Nat.le_refl _) _) g0
  have x1 : (w1.alloc (.cells #[.int .i64 LB, .int .i64 LE] 128)).cell? ⟨w1.heap.size, 1, none⟩ = some (.int .i64 LE) := by simp
  have U1 : Upd [d] w (w1.alloc (.cells #[.int .i64 LB, .int .i64 LE] 128)) := by
   repeat exact qU
  have k1 : w.heap.size < (w1.alloc (.cells #[.int .i64 LB, .int .i64 LE] 128)).heap.size := by simp; omega
  have k2 : w1.heap.size < (w1.alloc (.cells #[.int .i64 LB, .int .i64 LE] 128)).heap.size := by simp
  generalize (w1.alloc (.cells #[.int .i64 LB, .int .i64 LE] 128)) = W at *
  have r0 := H1.bg.c0
  have e1 := H1.dk.c1
  refine wp_region_held_drew (S := fun ww => ww.cell? ⟨w.heap.size, 0, none⟩ = some (.pointer (some ⟨r, 0, none⟩)) ∧ ww.cell? ⟨r, 0, none⟩ = some (.pointer (some ⟨d, 0, none⟩)) ∧ ww.cell? ⟨w1.heap.size, 1, none⟩ = some (.int .i64 LE)) qk ?_ (fun hHeld => ?_)
  ·exact ⟨memLater ((Below.refl _ _).drew) g1, memLater ((Below.refl _ _).drew) r0, memLater ((Below.refl _ _).drew) x1⟩
  refine qT 0 ?_
  simp only [Act.put, qP]
  refine qT 1 ?_
  simp only [Act.put, qP]
  refine qT 2 ?_
  simp only [Act.put, qP]
  refine qT 3 ?_
  simp only [Act.put, qP]
  refine qT 4 ?_
  simp only [Act.put, qP]
  refine qT 5 ?_
  simp only [Act.put, qP]
  refine qT 6 ?_
  simp only [Act.put, qP]
  refine qT 7 ?_
  simp only [Act.put, qP]
  refine qT 8 ?_
  simp only [Act.put, qP]
  refine qT 9 ?_
  simp only [Act.put, qP]
  refine qT 10 ?_
  simp only [Act.put, qP]
  refine qT 11 ?_
  simp only [Act.put, qP]
  refine qT 14 ?_
  simp only [Act.put, qP]
  refine qT 15 ?_
  simp only [Act.put, qP]
  have e1' : W.drew.cell? ⟨d, 1, none⟩ = some (.int .i64 p.pl) := memLater ((Below.refl _ _).drew) e1
  refine qR 12 fun K hK => ?_
  rw [if_pos (by rfl)]
  go_wp2_with fail
  refine hK.out _ _ ?_ (fun hHeld => ?_)
  ·exact ⟨memLater ((Below.refl _ _).drew) g1, memLater ((Below.refl _ _).drew) r0, memLater ((Below.refl _ _).drew) x1⟩
  clear hK K
  try simp only [Act.put, qP]
  refine qT 13 ?_
  simp only [Act.put, qP]
  refine qT 16 ?_
  simp only [Act.put, qP]
  refine qR 17 fun K hK => ?_
  rw [if_pos (by rfl)]
  go_wp2_with fail
  refine Calls.mono (HI.out _ H1.drew) ?_
  rintro r3 w3 ⟨rfl, h3, u3⟩
  have hz3 := u3.size
  (try simp at hz3)
  go_wp2_with fail
  refine hK.out _ _ ?_ (fun hHeld => ?_)
  ·exact ⟨u3.was (memLater ((Below.refl _ _).drew) g1) qs, h3.bg.c0, u3.was (memLater ((Below.refl _ _).drew) x1) qs⟩
  clear hK K
  try simp only [Act.put, qP]
  refine qT 18 ?_
  simp only [Act.put, qP]
  refine wpAnyH_done qk ?_ _
  go_wp2
  go_ret
  refine ⟨rfl, ?_, ?_⟩
  ·exact h3
  ·exact Upd.trans (Upd.drew U1) u3
def escPl (p : Pg) : Nat := max (p.pl - 1) (beg p.t p.pl)
theorem iEscape (r d : Nat) (p : Pg) (w : World) (h : RdAt w r d p) (hs : p.t.size ≤ 1000) (hl : p.pl ≤ p.t.size) :
  Calls Tryz.prog 304 #[.agg #[.pointer (some ⟨d, 0, none⟩)]] w fun e w' => e = .returned (.int .i64 2) ∧ RdAt w' r d { p with pl := escPl p, mode := 0, anchor := 0 } ∧ Upd [d] w w' := by
 have HL : Hid (∀ ww, RdAt ww r d p → qC 181 #[.pointer (some ⟨d, 0, none⟩)] ww (.agg #[.int .i64 (beg p.t p.pl), .int .i64 (fin p.t p.pl)])) := fun ww hh => mLine r d p ww hh hs hl
 have HN : Hid (∀ ww, RdAt ww r d { p with pl := escPl p } → Calls Tryz.prog 136 #[.pointer (some ⟨d, 0, none⟩)] ww fun e w' => e = .returned (.tuple #[]) ∧ RdAt w' r d { p with pl := escPl p, mode := 0, anchor := 0 } ∧ Upd [d] ww w') := fun ww hh => mToNormal r d _ ww hh
 have hbl := beg_le p.t p.pl
 obtain ⟨MI, hMI, hcase⟩ : ∃ MI : Int, MI = ((escPl p : Nat) : Int) ∧ ((MI = (beg p.t p.pl : Nat) ∧ (p.pl : Int) - 1 < ((beg p.t p.pl : Nat) : Int)) ∨ (MI = (p.pl : Int) - 1 ∧ ¬ (p.pl : Int) - 1 < ((beg p.t p.pl : Nat) : Int))) := ⟨_, rfl, by unfold escPl; omega⟩
 have HS : Hid (∀ ww, RdAt ww r d p → RdAt (ww.setCell ⟨d, 1, none⟩ (.int .i64 MI)) r d { p with pl := escPl p }) := by
  intro ww hh
  rw [hMI]
  exact hh.set_pl _
 have H := h
 have c1 := h.dk.c1
 have dl := h.dk.lt
 have l2 : d < w.heap.size + 1 := by omega
 have hwr : IntKind.i64.wrap ((p.pl : Int) - 1) = (p.pl : Int) - 1 := by rw [IntKind.wrap_i64]; omega
 have hx := ix0 (beg p.t p.pl) (fin p.t p.pl)
 generalize hP : ({ p with pl := escPl p, mode := 0, anchor := 0 } : Pg) = p2 at *
 generalize hP3 : ({ p with pl := escPl p } : Pg) = p3 at *
 generalize beg p.t p.pl = LB at *
 generalize fin p.t p.pl = LE at *
 clear hP hP3 hMI hbl
 rcases hcase with ⟨hm, hm1⟩ | ⟨hm, hm1⟩
 all_goals
  subst hm
  go_enter func304, ntmps304
  go_wp2_with fail
  have H1 : RdAt (w.alloc (.cells #[.pointer (some ⟨d, 0, none⟩)] 80)) r d p := H.alloc _
  have g0 : (w.alloc (.cells #[.pointer (some ⟨d, 0, none⟩)] 80)).cell? ⟨w.heap.size, 0, none⟩ = some (.pointer (some ⟨d, 0, none⟩)) := by simp
  have U1 : Upd [d] w (w.alloc (.cells #[.pointer (some ⟨d, 0, none⟩)] 80)) := by
   repeat exact qU
  have k1 : w.heap.size < (w.alloc (.cells #[.pointer (some ⟨d, 0, none⟩)] 80)).heap.size := by simp
  generalize (w.alloc (.cells #[.pointer (some ⟨d, 0, none⟩)] 80)) = W at *
  have e1' : W.drew.cell? ⟨d, 1, none⟩ = some (.int .i64 p.pl) := memLater ((Below.refl _ _).drew) H1.dk.c1
  have hd1 := H1.dk.lt
  refine wp_region_held_drew (S := fun ww => ww.cell? ⟨w.heap.size, 0, none⟩ = some (.pointer (some ⟨d, 0, none⟩))) qk ?_ (fun hHeld => ?_)
  ·exact memLater ((Below.refl _ _).drew) g0
  refine qT 0 ?_
  simp only [Act.put, qP]
  refine qT 1 ?_
  simp only [Act.put, qP]
  refine qT 2 ?_
  simp only [Act.put, qP]
  refine qT 3 ?_
  simp only [Act.put, qP]
  refine qT 4 ?_
  simp only [Act.put, qP]
  refine qT 5 ?_
  simp only [Act.put, qP]
  refine qT 8 ?_
  simp only [Act.put, qP]
  refine qT 9 ?_
  simp only [Act.put, qP]
  refine wpAnyH_ready (rs := [6, 10]) qk qi (AllReadyH.cons rfl (fun K hK => ?_) (AllReadyH.cons rfl (fun K hK => ?_) AllReadyH.nil))
  ·rw [if_pos (by rfl)]
   go_wp2_with fail
   refine hK.out _ _ (memLater ((Below.refl _ _).drew) g0) (fun hHeld => ?_)
   clear hK K
   try simp only [Act.put, qP]
   refine qT 7 ?_
   simp only [Act.put, qP]
   refine qR 10 fun K hK => ?_
   rw [if_pos (by rfl)]
   go_wp2_with fail
   refine (HL.out _ H1.drew).mono ?_
   rintro r1 w1 ⟨rfl, h1⟩
   obtain ⟨hc1, hf1, hz1⟩ := qb h1
   (try simp at hz1)
   go_wp2_with fail
   refine hK.out _ _ ?_ (fun hHeld => ?_)
   ·exact memLater h1 (memLater ((Below.refl _ _).drew) g0)
   clear hK K
   try simp only [Act.put, qP]
   have H2 := (H1.drew).below h1
   have f1 := H2.dk.c1
   have fz := H2.dk.fz
   have fl := H2.dk.lt
   have fg := memLater h1 (memLater ((Below.refl _ _).drew) g0)
   clear hc1 hf1
   refine qT 11 ?_
   simp only [Act.put, qP]
   refine qT 12 ?_
   simp only [Act.put, qP]
   refine qT 13 ?_
   simp only [Act.put, qP]
   refine qT 14 ?_
   simp only [Act.put, qP]
   refine qR 15 fun K hK => ?_
   rw [if_pos (by rfl)]
   go_wp2_with fail
   refine hK.out _ _ ?_ (fun hHeld => ?_)
   ·go_simp
   clear hK K
   try simp only [Act.put, qP]
   refine wpAnyH_done qk ?_ _
   have HS2 := HS.out _ H2
   go_wp2_with fail
   refine Calls.mono (HN.out _ HS2) ?_
   rintro e w2 ⟨rfl, h2, u2⟩
   go_wp2
   go_ret
   refine ⟨rfl, h2, ?_⟩
   exact Upd.trans (Upd.setCell (Upd.below (Upd.drew U1) h1) (Or.inl qi) _) u2
  ·rw [if_pos (by rfl)]
   go_wp2_with fail
   refine (HL.out _ H1.drew).mono ?_
   rintro r1 w2 ⟨rfl, h1⟩
   have hz1 := h1.size
   (try simp at hz1)
   have H2 := (H1.drew).below h1
   have f1 := H2.dk.c1
   have fz := H2.dk.fz
   have fl := H2.dk.lt
   have fg := memLater h1 (memLater ((Below.refl _ _).drew) g0)
   go_wp2_with fail
   refine hK.out _ _ fg (fun hHeld => ?_)
   clear hK K
   try simp only [Act.put, qP]
   refine qT 11 ?_
   simp only [Act.put, qP]
   refine qR 6 fun K hK => ?_
   rw [if_pos (by rfl)]
   go_wp2_with fail
   refine hK.out _ _ ?_ (fun hHeld => ?_)
   ·exact fg
   clear hK K
   try simp only [Act.put, qP]
   refine qT 7 ?_
   simp only [Act.put, qP]
   refine qT 12 ?_
   simp only [Act.put, qP]
   refine qT 13 ?_
   simp only [Act.put, qP]
   refine qT 14 ?_
   simp only [Act.put, qP]
   refine qR 15 fun K hK => ?_
   rw [if_pos (by rfl)]
   go_wp2_with fail
   refine hK.out _ _ ?_ (fun hHeld => ?_)
   ·go_simp
   clear hK K
   try simp only [Act.put, qP]
   refine wpAnyH_done qk ?_ _
   have HS2 := HS.out _ H2
   go_wp2_with fail
   refine Calls.mono (HN.out _ HS2) ?_
   rintro e w3 ⟨rfl, h2, u2⟩
   go_wp2
   go_ret
   refine ⟨rfl, h2, ?_⟩
   exact Upd.trans (Upd.setCell (Upd.below (Upd.drew U1) h1) (Or.inl qi) _) u2
