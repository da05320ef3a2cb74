/- A part. -/
import Derived.Test.YtlendfhehhacpaaGreatP33
import Derived.Test.YtlendfhehhacpaaGreatP29
set_option linter.unusedVariables false
set_option linter.unusedSimpArgs false
set_option maxRecDepth 100000
set_option maxHeartbeats 8000000
namespace Go.Proofs.YtlendfhehhacpaaGreat
open Go.RowKit
theorem mDo_long (v : Int) (r d m : Nat) (p : Pg) (i j : Nat) (l : Bool) (t2 : ByteArray) (q : Nat) (f : Int → Value) (w : World) (h : RdAt w r d p) (hg : RgAt w m f) (hm : p.regs = .map (some m)) (hmr : m ≠ r) (hmd : m ≠ d) (hs : p.t.size ≤ 1000) (hs2 : 1000 < t2.size) (hij : i ≤ j) (hj : j ≤ p.t.size) (hne : ¬ (i = j ∧ l = false)) (hv : v = 62 ∨ v = 60 ∨ v = 117 ∨ v = 85)
  (HD : qH 174 #[.int .u8 v, .string p.t, .agg #[.int .i64 i, .int .i64 j, .bool l], .int .i64 p.pl] (.tuple #[.string t2, .int .i64 q])) :
  Calls Tryz.prog 146 #[.pointer (some ⟨r, 0, none⟩), .int .u8 v, .agg #[.int .i64 i, .int .i64 j, .bool l]] w fun e w' => e = .returned (.int .i64 4) ∧ RdAt w' r d p ∧ RgAt w' m f ∧ Upd [d, m] w w' := by
 have HN : qH 172 #[.agg #[.int .i64 i, .int .i64 j, .bool l]] (.bool false) := by
  exact qt59
 have HT : qH 173 #[.string p.t, .agg #[.int .i64 i, .int .i64 j, .bool l]] (.agg #[.string (tkn p.t i j l), .bool l]) := fun ww => mTaken_piece p.t i j l ww hs hij hj
 generalize tkn p.t i j l = X at *
 have HBc : Hid (∀ ww, Calls Tryz.prog 175 #[.pointer (some ⟨d, 0, none⟩), .string t2] ww fun e w' => e = .returned (.bool false) ∧ w' = ww) := fun ww => mBecome_long r d t2 ww hs2
 have hml := hg.lt
 have v99 : (v == 99) = false := by simp; omega
 have v121 : (v == 121) = false := by simp; omega
 have v99' : (v != 99) = true := by simp; omega
 have H := h
 obtain ⟨c0, c1, c2, c3, c4, c5, c6, c7, c8, c9, fz, lt⟩ := h.dk
 obtain ⟨b0, b1, b2, b3, b4, b5, bz, bl⟩ := h.bg
 clear c2 c3 c4 c5 c6 c7 c8 c9 b1 b2 b3 b4 b5 h
 have l1 : r < w.heap.size + 1 := by omega
 have l2 : d < w.heap.size + 1 := by omega
 have l3 : ¬ w.heap.size = d := by omega
 have l4 : ¬ w.heap.size = r := by omega
 go_enter Tryz.func146, Tryz.ntmps146
 go_wp2_with fail
 refine (HN.out _).mono ?_
 rintro e w1 ⟨rfl, h1⟩
 obtain ⟨hc1, hf1, hz1⟩ := qb h1
 try simp at hz1
 have d0 : w1.cell? ⟨d, 0, none⟩ = some (.string p.t) := by rw [hc1 _ _ qs]; go_simp
 have d1 : w1.cell? ⟨d, 1, none⟩ = some (.int .i64 p.pl) := by rw [hc1 _ _ qs]; go_simp
 have r0 : w1.cell? ⟨r, 0, none⟩ = some (.pointer (some ⟨d, 0, none⟩)) := by rw [hc1 _ _ qs]; go_simp
 have p0 : w1.cell? ⟨w.heap.size, 0, none⟩ = some (.int .i64 i) := by rw [hc1 _ _ qi]; simp
 have p1 : w1.cell? ⟨w.heap.size, 1, none⟩ = some (.int .i64 j) := by rw [hc1 _ _ qi]; simp
 have p2 : w1.cell? ⟨w.heap.size, 2, none⟩ = some (.bool l) := by rw [hc1 _ _ qi]; simp
 have k1 : r < w1.heap.size := by omega
 have k2 : d < w1.heap.size := by omega
 have k3 : w.heap.size < w1.heap.size := by omega
 clear hc1 hf1
 go_wp2_with fail
 go_region_held3 (fun ww => ww.cell? ⟨r, 0, none⟩ = some (.pointer (some ⟨d, 0, none⟩)) ∧ ww.cell? ⟨d, 0, none⟩ = some (.string p.t) ∧ ww.cell? ⟨w.heap.size, 0, none⟩ = some (.int .i64 i) ∧ ww.cell? ⟨w.heap.size, 1, none⟩ = some (.int .i64 j) ∧ ww.cell? ⟨w.heap.size, 2, none⟩ = some (.bool l)) (exact qK) (first | (go_at_call 173; with_reducible refine Calls.mono (HT.out (w1.alloc (.cells #[.string ⟨#[]⟩, .bool false] 99)).drew) ?_; rintro r2 w2 ⟨rfl, h2⟩; obtain ⟨hc2, hf2, hz2⟩ := qb h2; simp at hz2; have hn0 : w2.cell? ⟨w1.heap.size, 0, none⟩ = some (.string ⟨#[]⟩) := (hc2 (w1.heap.size) 0 qi).trans qi; have hn1 : w2.cell? ⟨w1.heap.size, 1, none⟩ = some (.bool false) := (hc2 (w1.heap.size) 1 qi).trans qi; have hq2 : ∀ o, w2.frozen? ⟨w1.heap.size, o, none⟩ = false := (fun o => (hf2 (w1.heap.size) o qi).trans qi); clear hc2 hf2) | (go_at_call 173; with_reducible refine Calls.mono (HT.out w1.drew) ?_; rintro r2 w2 ⟨rfl, h2⟩; have hz2 := h2.size; simp at hz2))
 rename_i hHeld
 have E : DoAt w (w2.alloc (.cells #[.string X, .bool l] 99)) r d m w.heap.size w2.heap.size p f i j l X := by
  exact qt32
 clear hHeld h1 h2 hz2 hg H d0 d1 r0 p0 p1 p2
 generalize (w2.alloc (.cells #[.string X, .bool l] 99)) = W at *
 generalize w2.heap.size = k at *
 rotate_left
 rename_i hHeld
 have E : DoAt w ((w2.setCell ⟨w1.heap.size, 0, none⟩ (.string X)).setCell ⟨w1.heap.size, 1, none⟩ (.bool l)) r d m w.heap.size w1.heap.size p f i j l X := by
  exact qt27
 clear hHeld h1 h2 hz2 hg H d0 d1 r0 p0 p1 p2
 generalize ((w2.setCell ⟨w1.heap.size, 0, none⟩ (.string X)).setCell ⟨w1.heap.size, 1, none⟩ (.bool l)) = W at *
 generalize w1.heap.size = k at *
 rotate_left
 all_goals
  obtain ⟨rd, rg, p0, p1, p2, x0, x1, lb, lk, up, lw⟩ := E
  have H := rd
  have r0 := rd.bg.c0
  have d0 := rd.dk.c0
  have d1 := rd.dk.c1
  have hlr := rd.bg.lt
  have hld := rd.dk.lt
  go_wp2_with fail
  go_region_held3 (fun ww => ww.cell? ⟨r, 0, none⟩ = some (.pointer (some ⟨d, 0, none⟩)) ∧ ww.cell? ⟨d, 0, none⟩ = some (.string p.t) ∧ ww.cell? ⟨d, 1, none⟩ = some (.int .i64 p.pl) ∧ ww.cell? ⟨w.heap.size, 0, none⟩ = some (.int .i64 i) ∧ ww.cell? ⟨w.heap.size, 1, none⟩ = some (.int .i64 j) ∧ ww.cell? ⟨w.heap.size, 2, none⟩ = some (.bool l)) (exact qK) ((go_at_call 174; refine Calls.mono (HD.out _) ?_; rintro r3 w3 ⟨rfl, h3⟩; have hz3 := h3.size; (try simp at hz3); (try have ⟨hl3_0, hk3_0⟩ := qL d w3.heap.size); (try have ⟨hl3_1, hk3_1⟩ := qL r w3.heap.size); (try have ⟨hl3_2, hk3_2⟩ := qL w.heap.size w3.heap.size)))
  have H3 := (rd.drew).below h3
  have G3 := (rg.drew).below h3
  have y0 := memLater h3 (memLater ((Below.refl _ _).drew) x0)
  have y1 := memLater h3 (memLater ((Below.refl _ _).drew) x1)
  have up3 : Below w.heap.size w w3 := by
   repeat exact qB
  clear rd rg x0 x1 up h3 H r0 d0 d1
  go_wp2_with fail
  refine Calls.mono (HBc.out _) ?_
  rintro e4 w4 ⟨rfl, rfl⟩
  go_wp2
  go_ret
  exact ⟨rfl, H3, G3, Upd.of_below up3⟩
theorem mSpot (r d : Nat) (p : Pg) (w : World) (h : RdAt w r d p) (hn : p.n ≤ 99) (hb : p.behind ≤ 99) :
  qC 156 #[.agg #[.pointer (some ⟨r, 0, none⟩)]] w (.agg #[.string p.t, .int .i64 p.pl, .int .i64 (max (cnt p) 1 : Nat)]) := by
 have HT : Hid (∀ ww, RdAt ww r d p → qC 161 #[.pointer (some ⟨r, 1, none⟩)] ww (.int .i64 (max (cnt p) 1 : Nat))) := fun ww hh => mTimes r d p ww hh hn hb
 have H := h
 have b0 := h.bg.c0
 have bl := h.bg.lt
 have c0 := h.dk.c0
 have c1 := h.dk.c1
 have dl := h.dk.lt
 have l1 : r < w.heap.size + 1 := by omega
 have l2 : d < w.heap.size + 1 := by omega
 have l3 : r < w.heap.size + 1 + 1 := by omega
 have l4 : d < w.heap.size + 1 + 1 := by omega
 generalize max (cnt p) 1 = N at *
 clear h
 go_enter Tryz.func156, Tryz.ntmps156
 have g0 : ((w.alloc (.cells #[.pointer (some ⟨r, 0, none⟩)] 77)).alloc (.cells #[.string ⟨#[]⟩, .int .i64 0, .int .i64 0] 192)).cell? ⟨w.heap.size, 0, none⟩ = some (.pointer (some ⟨r, 0, none⟩)) := by simp
 go_wp2_with fail
 go_region_held3 (fun ww => ww.cell? ⟨w.heap.size, 0, none⟩ = some (.pointer (some ⟨r, 0, none⟩)) ∧ ww.cell? ⟨r, 0, none⟩ = some (.pointer (some ⟨d, 0, none⟩)) ∧ ww.cell? ⟨d, 0, none⟩ = some (.string p.t) ∧ ww.cell? ⟨d, 1, none⟩ = some (.int .i64 p.pl)) (exact qK) ((go_at_call 161; refine Calls.mono (HT.out _ qRd) ?_; rintro r1 w1 ⟨rfl, h1⟩; have hz1 := h1.size; (try simp at hz1); (try have ⟨hl1_0, hk1_0⟩ := qL d w1.heap.size); (try have ⟨hl1_1, hk1_1⟩ := qL r w1.heap.size); (try have ⟨hl1_2, hk1_2⟩ := qL w.heap.size w1.heap.size); obtain ⟨hc1, hf1⟩ := bcell h1; have hn1_0 := (hc1 (w.heap.size + 1) 0 qO).trans (show _ = some (.string ⟨#[]⟩) by simp); have hn1_1 := (hc1 (w.heap.size + 1) 1 qO).trans (show _ = some (.int .i64 0) by simp); have hn1_2 := (hc1 (w.heap.size + 1) 2 qO).trans (show _ = some (.int .i64 0) by simp); have hq1 := fun o => (hf1 (w.heap.size + 1) o qO).trans (show _ = false by simp); have hg1 : w.heap.size + 1 < w1.heap.size := qo; clear hc1 hf1))
 go_wp2
 exact qV (.agg #[.string p.t, .int .i64 p.pl, .int .i64 N]) (by simp [results, Tryz.results156, go_sem, hn1_0, hn1_1, hn1_2, hq1, hg1]) rfl
def edP (p : Pg) (X : ByteArray) (q : Nat) (is : Bool) : Pg := if is = true ∧ X.size ≤ 1000 then { p with t := X, pl := Nib.clm X q } else p
def edO (X : ByteArray) (is : Bool) : Int := if is = true ∧ X.size ≤ 1000 then 2 else 4
theorem mEdit (r d : Nat) (p : Pg) (X : ByteArray) (q : Nat) (is : Bool) (w : World) (h : RdAt w r d p) (hq : is = true → X.size ≤ 1000 → q ≤ X.size) :
  Calls Tryz.prog 155 #[.agg #[.pointer (some ⟨r, 0, none⟩)], .string X, .int .i64 q, .bool is] w fun e w' => e = .returned (.int .i64 (edO X is)) ∧ RdAt w' r d (edP p X q is) ∧ Upd [d] w w' := by
 have H := h
 have b0 := h.bg.c0
 have bl := h.bg.lt
 have dl := h.dk.lt
 have l1 : r < w.heap.size + 1 := by omega
 have l2 : d < w.heap.size + 1 := by omega
 unfold edP edO
 cases is with
 | false =>
  rw [if_neg qi, if_neg qi]
  clear hq
  go_enter Tryz.func155, Tryz.ntmps155
  exact qt16
 | true =>
  by_cases hx : X.size ≤ 1000
  ·have hq := hq rfl hx
   rw [if_pos ⟨rfl, hx⟩, if_pos ⟨rfl, hx⟩]
   have HB : Hid (∀ ww, RdAt ww r d p → Calls Tryz.prog 175 #[.pointer (some ⟨d, 0, none⟩), .string X] ww fun e w' => e = .returned (.bool true) ∧ RdAt w' r d { p with t := X } ∧ Upd [d] ww w') := fun ww hh => mBecome r d p X ww hh hx
   have HM : Hid (∀ ww, RdAt ww r d { p with t := X } → Calls Tryz.prog 179 #[.pointer (some ⟨d, 0, none⟩), .int .i64 q] ww fun e w' => e = .returned (.tuple #[]) ∧ RdAt w' r d { p with t := X, pl := Nib.clm X q } ∧ Upd [d] ww w') := fun ww hh => mMoveTo r d { p with t := X } q q ww hh hx rfl hq
   generalize hP : ({ p with t := X, pl := Nib.clm X q } : Pg) = p2 at *
   generalize hP3 : ({ p with t := X } : Pg) = p3 at *
   clear hP hP3 h hx hq
   go_enter Tryz.func155, Tryz.ntmps155
   go_wp2_with fail
   refine Calls.mono (HB.out _ qRd) ?_
   rintro e w1 ⟨rfl, h1, u1⟩
   have r0 := h1.bg.c0
   have g1 : w1.cell? ⟨w.heap.size, 0, none⟩ = some (.pointer (some ⟨r, 0, none⟩)) := u1.was qi qs
   go_wp2_with fail
   refine Calls.mono (HM.out _ h1) ?_
   rintro e w2 ⟨rfl, h2, u2⟩
   exact qt16
  ·rw [if_neg (fun e => hx e.2), if_neg (fun e => hx e.2)]
   have HB : Hid (∀ ww, Calls Tryz.prog 175 #[.pointer (some ⟨d, 0, none⟩), .string X] ww fun e w' => e = .returned (.bool false) ∧ w' = ww) := fun ww => mBecome_long r d X ww qo
   clear hq hx
   go_enter Tryz.func155, Tryz.ntmps155
   go_wp2_with fail
   refine (HB.out _).mono ?_
   rintro e w' ⟨rfl, rfl⟩
   exact qt16
def rdN (c : Int) : Int := if c = 0 then 34 else c
theorem rRead (m : Nat) (c : Int) (f : Int → Value) (t : ByteArray) (l : Bool) (w : World) (hg : RgAt w m f) (hf : f (rdN c) = .agg #[.string t, .bool l]) :
  qC 189 #[.map (some m), .int .u8 c] w (.agg #[.string t, .bool l]) := by
 have hl := hg.lt
 unfold rdN at hf
 by_cases h0 : c = 0
 ·rw [if_pos h0] at hf
  subst h0
  have hlk := (hg.alloc (.cells #[.string ⟨#[]⟩, .bool false] 99)).look 34
  rw [hf] at hlk
  clear hf hg
  go_enter Tryz.func189, Tryz.ntmps189
  go_wp2
  exact qV (.agg #[.string t, .bool l]) (by simp [results, Tryz.results189, go_sem]) rfl
 ·rw [if_neg h0] at hf
  have hlk := (hg.alloc (.cells #[.string ⟨#[]⟩, .bool false] 99)).look c
  rw [hf] at hlk
  clear hf hg
  go_enter Tryz.func189, Tryz.ntmps189
  go_wp2
  exact qV (.agg #[.string t, .bool l]) (by simp [results, Tryz.results189, go_sem]) rfl
theorem wes_lt {s : ByteArray} {g : Bool} {r : Nat} (h : r < s.size) : Nib.wes s g r < s.size := by
 rw [Nib.wes_eq h]
 split
 ·exact h
 ·rename_i hu
  have h1 : Nib.up (Nib.sp s) s.size (r + 1) ≤ s.size := Nib.up_le qo
  have h2 := Nib.wrun_le (s := s) (p := Nib.up (Nib.sp s) s.size (r + 1)) (g := g) h1
  have h3 := Nib.wrun_ge s (Nib.up (Nib.sp s) s.size (r + 1)) g
  have h4 := Nib.up_ge (Nib.sp s) s.size (r + 1)
  omega
theorem itr_wes_lt {s : ByteArray} {g : Bool} {r : Nat} (h : r < s.size) : ∀ n, Nib.itr (Nib.wes s g) n r < s.size := by
 intro n
 induction n with
 | zero => exact h
 | succ n ih => exact wes_lt ih
theorem sOwnEnd (s : ByteArray) (p n : Nat) (v c g : Bool) (w : World) (hs : s.size ≤ 1000) (hp : p < s.size) (hb : Nib.bt s p ≠ 10) (hn : n ≤ 99) :
  qC 248 #[.agg #[.string s, .int .i64 (p), .int .i64 (n), .bool v, .bool c], .bool g] w (.agg #[.int .i64 (Nib.itr (Nib.wes s g) (max n 1 - 1) (Nib.wrun s p g - 1) : Nat), .int .i64 1]) := by
 have hwg := Nib.wrun_gt (g := g) hp
 have hwl := Nib.wrun_le (s := s) (p := p) (g := g) qo
 have HR : qH 256 #[.string s, .int .i64 p, .bool g] (.agg #[.int .i64 (Nib.runB s p g), .int .i64 (Nib.wrun s p g)]) := fun ww => tRun_any s p p g ww hs rfl hp hb
 have HP : Hid (∀ (q : Nat), q < s.size → ∀ ww, qC 252 #[.string s, .int .i64 q, .bool g] ww (.int .i64 (Nib.wes s g q))) := fun q hq ww => sWordEnd_any s q g ww hs qo
 have HN : qH 241 #[.agg #[.string s, .int .i64 (p), .int .i64 (n), .bool v, .bool c]] (.int .i64 ((max n 1 : Nat) : Int)) := by
  exact qt45
 have hw1 : IntKind.i64.wrap ((Nib.wrun s p g : Int) - 1) = ((Nib.wrun s p g - 1 : Nat) : Int) := by rw [IntKind.wrap_i64]; omega
 have hw1' : ((Nib.wrun s p g : Nat) : Int) - 1 = ((Nib.wrun s p g - 1 : Nat) : Int) := by omega
 have hx := ix1 (Nib.runB s p g) (Nib.wrun s p g)
 have hq0 : Nib.wrun s p g - 1 < s.size := by omega
 obtain ⟨M, hM⟩ : ∃ M, max n 1 = M + 1 := ⟨max n 1 - 1, by omega⟩
 have hM2 : M ≤ 99 := by omega
 rw [hM] at HN
 rw [hM, Nat.add_sub_cancel]
 have hw2 : IntKind.i64.wrap (((M + 1 : Nat) : Int) - 1) = (M : Int) := by rw [IntKind.wrap_i64]; omega
 have hw3 : ((M + 1 : Nat) : Int) - 1 = (M : Int) := by omega
 generalize Nib.runB s p g = RB0 at *
 generalize hRE : Nib.wrun s p g = RE at *
 generalize hQ0 : RE - 1 = Q0 at *
 have HN2 : qH 241 #[.agg #[.string s, .int .i64 (p), .int .i64 (n), .bool v, .bool c]] (.int .i64 ((M : Int) + 1)) := by
  intro ww
  have := HN.out ww
  rw [show ((M + 1 : Nat) : Int) = (M : Int) + 1 by omega] at this
  exact this
 have hw5 : IntKind.i64.wrap ((M : Int) + 1 - 1) = (M : Int) := by rw [IntKind.wrap_i64]; omega
 clear hM hRE hQ0 HN hwg hwl hb hw2 hw3
 go_enter Tryz.func248, Tryz.ntmps248
 have F : Five ((w.alloc (.cells #[.string s, .int .i64 (p), .int .i64 (n), .bool v, .bool c] 206)).alloc (.cells #[.int .i64 0, .int .i64 0] 202)) w.heap.size s p n v c := Five.alloc (Five.new _ _ _ _ _ _ _) _
 have RB : Two ((w.alloc (.cells #[.string s, .int .i64 (p), .int .i64 (n), .bool v, .bool c] 206)).alloc (.cells #[.int .i64 0, .int .i64 0] 202)) (w.heap.size + 1) 0 0 := qN
 go_wp2_with fail
 refine (HR.out _).mono ?_
 rintro r1 w1 ⟨rfl, h1⟩
 obtain ⟨hc1, hf1, hz1⟩ := qb h1
 (try simp at hz1)
 have F1 : Five w1 (w.heap.size) s p n v c := qF
 have ⟨F1_0, F1_1, F1_2, F1_3, F1_4, F1_z, F1_l⟩ := F1
 have RB1 : Two w1 (w.heap.size + 1) (0) (0) := qTw
 have ⟨RB1_0, RB1_1, RB1_z, RB1_l⟩ := RB1
 clear hc1 hf1
 go_wp2_with fail
 refine (HN2.out _).mono ?_
 rintro r2 w2 ⟨rfl, h2⟩
 obtain ⟨hc2, hf2, hz2⟩ := qb h2
 (try simp at hz2)
 have F2 : Five w2 (w.heap.size) s p n v c := qF
 have ⟨F2_0, F2_1, F2_2, F2_3, F2_4, F2_z, F2_l⟩ := F2
 have RB2 : Two w2 (w.heap.size + 1) (0) (0) := qTw
 have ⟨RB2_0, RB2_1, RB2_z, RB2_l⟩ := RB2
 clear hc2 hf2
 go_wp2
 go_loopw [5, 17] (fun q i wr => ∃ k : Nat, k ≤ M ∧ q = .int .i64 (Nib.itr (Nib.wes s g) k Q0 : Nat) ∧ i = .int .i64 k ∧ Five wr w.heap.size s p n v c ∧ Two wr (w.heap.size + 1) 0 0 ∧ Below w.heap.size w wr) (fun _ i _ => M - (intOf i).toNat)
 case atStart =>
  refine ⟨0, by omega, by first | rfl | (simp [Nib.itr]; omega), rfl, F2, RB2, ?_⟩
  repeat exact qB
 case round =>
  clear F RB h1 h2 F1 RB1 F2 RB2 F1_0 F1_1 F1_2 F1_3 F1_4 F1_z F1_l RB1_0 RB1_1 RB1_z RB1_l F2_0 F2_1 F2_2 F2_3 F2_4 F2_z F2_l RB2_0 RB2_1 RB2_z RB2_l
  obtain ⟨k, hk, rfl, rfl, F, RB, hB⟩ := hrel
  have hq := itr_wes_lt (g := g) hq0 k
  have ⟨f0, f1, f2, f3, f4, fz, fl⟩ := F
  have r0 := (RB).c0
  have r1 := (RB).c1
  have rz := (RB).fz
  have rl := (RB).lt
  have hzz := hB.size
  by_cases hlt : k < M
  ·have HS : qH 252 #[.string s, .int .i64 (Nib.itr (Nib.wes s g) k Q0 : Nat), .bool g] (.int .i64 (Nib.itr (Nib.wes s g) (k + 1) Q0 : Nat)) := fun ww => HP.out _ hq ww
   generalize hA : Nib.itr (Nib.wes s g) (k + 1) Q0 = A at *
   go_wp2_with fail
   refine (HS.out _).mono ?_
   rintro r3 w3 ⟨rfl, h3⟩
   obtain ⟨hc3, hf3, hz3⟩ := qb h3
   (try simp at hz3)
   have F3 : Five w3 (w.heap.size) s p n v c := qF
   have ⟨F3_0, F3_1, F3_2, F3_3, F3_4, F3_z, F3_l⟩ := F3
   have RB3 : Two w3 (w.heap.size + 1) (0) (0) := qTw
   have ⟨RB3_0, RB3_1, RB3_z, RB3_l⟩ := RB3
   go_wp2
   go_round
   case rel =>
    refine ⟨k + 1, by omega, by rw [hA], by go_num, F3, RB3, ?_⟩
    repeat exact qB
   case measure => simp [intOf] <;> omega
  ·have ek : k = M := by omega
   subst ek
   generalize hA : Nib.itr (Nib.wes s g) k Q0 = A at *
   go_wp2
   exact qV (.agg #[.int .i64 A, .int .i64 1]) (by simp [results, Tryz.results248, go_sem, r0, r1, rz, rl]) (by rw [hA])
theorem sToWord_ink (s : ByteArray) (p n : Nat) (g : Bool) (w : World) (hs : s.size ≤ 1000) (hp : p < s.size) (hb : Nib.bt s p ≠ 10) (hn : n ≤ 99) (hi : (decide (p < s.size) && !Nib.spc (Nib.bt s p)) = true) :
  qC 208 #[.agg #[.string s, .int .i64 (p), .int .i64 (n), .bool true, .bool true], .bool g] w (.tuple #[.agg #[.int .i64 (Nib.itr (Nib.wes s g) (max n 1 - 1) (Nib.wrun s p g - 1) : Nat), .int .i64 1], .bool true]) := by
 have HI : Hid (∀ ww, Calls Tryz.prog 247 #[.string s, .int .i64 p] ww fun e w' => e = .returned (.bool true) ∧ w' = ww) := by
  intro ww
  have := sHasInk_any s p p ww hs rfl qo
  rw [hi] at this
  exact this
 have HO : qH 248 #[.agg #[.string s, .int .i64 (p), .int .i64 (n), .bool true, .bool true], .bool g] (.agg #[.int .i64 (Nib.itr (Nib.wes s g) (max n 1 - 1) (Nib.wrun s p g - 1) : Nat), .int .i64 1]) := fun ww => sOwnEnd s p n true true g ww hs hp hb hn
 generalize Nib.itr (Nib.wes s g) (max n 1 - 1) (Nib.wrun s p g - 1) = A at *
 clear hi
 go_enter Tryz.func208, Tryz.ntmps208
 have RB : Two ((w.alloc (.cells #[.string s, .int .i64 (p), .int .i64 (n), .bool true, .bool true] 206)).alloc (.cells #[.int .i64 0, .int .i64 0] 202)) (w.heap.size + 1) 0 0 := qN
 go_wp2_with fail
 refine (HI.out _).mono ?_
 rintro e w' ⟨rfl, rfl⟩
 go_wp2_with fail
 refine (HO.out _).mono ?_
 rintro r1 w1 ⟨rfl, h1⟩
 obtain ⟨hc1, hf1, hz1⟩ := qb h1
 (try simp at hz1)
 have RB1 : Two w1 (w.heap.size + 1) (0) (0) := qTw
 have ⟨RB1_0, RB1_1, RB1_z, RB1_l⟩ := RB1
 clear hc1 hf1
 go_wp2
 exact qV (.tuple #[.agg #[.int .i64 A, .int .i64 1], .bool true]) (by simp [results, Tryz.results208, go_sem, RB1_0, RB1_1, RB1_z, RB1_l]) rfl
theorem sToWord_noink (s : ByteArray) (p n : Nat) (g : Bool) (w : World) (hs : s.size ≤ 1000) (hp : p ≤ s.size) (hn : n ≤ 99) (hi : (decide (p < s.size) && !Nib.spc (Nib.bt s p)) = false) :
  qC 208 #[.agg #[.string s, .int .i64 (p), .int .i64 (n), .bool true, .bool true], .bool g] w (.tuple #[.agg #[.int .i64 (wayX (((Nib.wordQ s p (max n 1) g true : Int), 0, (Nib.wordQ s p (max n 1) g true : Int) == (p : Int)))), .int .i64 (wayK (((Nib.wordQ s p (max n 1) g true : Int), 0, (Nib.wordQ s p (max n 1) g true : Int) == (p : Int))))], .bool (wayZ (((Nib.wordQ s p (max n 1) g true : Int), 0, (Nib.wordQ s p (max n 1) g true : Int) == (p : Int))))]) := by
 have HI : Hid (∀ ww, Calls Tryz.prog 247 #[.string s, .int .i64 p] ww fun e w' => e = .returned (.bool false) ∧ w' = ww) := by
  intro ww
  have := sHasInk_any s p p ww hs rfl hp
  rw [hi] at this
  exact this
 clear hi
 have HP : Hid (∀ (q : Nat), q ≤ s.size → ∀ ww, qC 249 #[.string s, .int .i64 q, .bool g] ww (.int .i64 (Nib.wstep s g q))) := fun q hq ww => sWordStep_any s q g ww hs hq
 have HN : qH 241 #[.agg #[.string s, .int .i64 (p), .int .i64 (n), .bool true, .bool true]] (.int .i64 ((max n 1 : Nat) : Int)) := by
  intro ww
  have := sNumber_any s p n true true ww
  rw [show max (n : Int) 1 = ((max n 1 : Nat) : Int) by omega] at this
  exact this
 have hN1 : 1 ≤ max n 1 := by omega
 have hN2 : max n 1 ≤ 99 := by omega
 generalize max n 1 = N at *
 have HU : qH 240 #[.agg #[.string s, .int .i64 (p), .int .i64 (n), .bool true, .bool true], .int .i64 (Nib.wordQ s p N g true : Nat), .int .i64 0] (.tuple #[.agg #[.int .i64 (wayX (((Nib.wordQ s p N g true : Int), 0, (Nib.wordQ s p N g true : Int) == (p : Int)))), .int .i64 (wayK (((Nib.wordQ s p N g true : Int), 0, (Nib.wordQ s p N g true : Int) == (p : Int))))], .bool (wayZ (((Nib.wordQ s p N g true : Int), 0, (Nib.wordQ s p N g true : Int) == (p : Int))))]) := fun ww => sUnless_any s p n _ 0 true true ww
 generalize (((Nib.wordQ s p N g true : Nat) : Int), (0 : Int), (((Nib.wordQ s p N g true : Nat) : Int) == (p : Int))) = R at *
 have HK : qH 250 #[.string s, .int .i64 (Nib.itr (Nib.wstep s g) (N - 1) p : Nat), .int .i64 (Nib.itr (Nib.wstep s g) N p : Nat)] (.int .i64 (Nib.wordQ s p N g true : Nat)) := by
  exact qt50
 generalize Nib.wordQ s p N g true = Z at *
 go_enter Tryz.func208, Tryz.ntmps208
 have F : Five ((w.alloc (.cells #[.string s, .int .i64 (p), .int .i64 (n), .bool true, .bool true] 206)).alloc (.cells #[.int .i64 0, .int .i64 0] 202)) w.heap.size s p n true true := Five.alloc (Five.new _ _ _ _ _ _ _) _
 have RB : Two ((w.alloc (.cells #[.string s, .int .i64 (p), .int .i64 (n), .bool true, .bool true] 206)).alloc (.cells #[.int .i64 0, .int .i64 0] 202)) (w.heap.size + 1) 0 0 := qN
 go_wp2_with fail
 refine (HI.out _).mono ?_
 rintro e w' ⟨rfl, rfl⟩
 go_wp2_with fail
 go_region
 go_wp2_with fail
 refine (HN.out _).mono ?_
 rintro r1 w1 ⟨rfl, h1⟩
 obtain ⟨hc1, hf1, hz1⟩ := qb h1
 (try simp at hz1)
 have F1 : Five w1 (w.heap.size) s p n true true := qF
 have ⟨F1_0, F1_1, F1_2, F1_3, F1_4, F1_z, F1_l⟩ := F1
 have RB1 : Two w1 (w.heap.size + 1) (0) (0) := qTw
 have ⟨RB1_0, RB1_1, RB1_z, RB1_l⟩ := RB1
 go_wp2
 go_loopw [6, 7, 27] (fun f q i wr => ∃ k : Nat, k ≤ N ∧ f = .int .i64 (Nib.itr (Nib.wstep s g) (k - 1) p : Nat) ∧ q = .int .i64 (Nib.itr (Nib.wstep s g) k p : Nat) ∧ i = .int .i64 k ∧ Five wr w.heap.size s p n true true ∧ Two wr (w.heap.size + 1) 0 0 ∧ Below w.heap.size w wr) (fun _ _ i _ => N - (intOf i).toNat)
 case atStart =>
  refine ⟨0, by omega, rfl, rfl, rfl, F1, RB1, ?_⟩
  repeat exact qB
 case round =>
  clear F RB h1 hc1 hf1 F1_0 F1_1 F1_2 F1_3 F1_4 F1_z F1_l RB1_0 RB1_1 RB1_z RB1_l
  obtain ⟨k, hk, rfl, rfl, rfl, F, RB, hB⟩ := hrel
  have hq := Nib.itr_w_le (g := g) hp k
  have ⟨f0, f1, f2, f3, f4, fz, fl⟩ := F
  have r0 := (RB).c0
  have r1 := (RB).c1
  have rz := (RB).fz
  have rl := (RB).lt
  have hzz := hB.size
  by_cases hlt : k < N
  ·have HS : qH 249 #[.string s, .int .i64 (Nib.itr (Nib.wstep s g) k p : Nat), .bool g] (.int .i64 (Nib.itr (Nib.wstep s g) (k + 1) p : Nat)) := fun ww => HP.out _ hq ww
   generalize hA : Nib.itr (Nib.wstep s g) (k + 1) p = A at *
   go_wp2_with fail
   refine (HS.out _).mono ?_
   rintro r2 w2 ⟨rfl, h2⟩
   obtain ⟨hc2, hf2, hz2⟩ := qb h2
   (try simp at hz2)
   have F2 : Five w2 (w.heap.size) s p n true true := qF
   exact qt77
  ·have ek : k = N := by omega
   subst ek
   generalize Nib.itr (Nib.wstep s g) (k - 1) p = E at *
   generalize Nib.itr (Nib.wstep s g) k p = A at *
   have s0 := f0; have s1 := f1; have s2 := f2; have s3 := f3; have s4 := f4
   clear HP HN F f0 f1 f2 f3 f4
   go_wp2_with fail
   go_region_held3 (fun ww => ww.cell? ⟨w.heap.size, 0, none⟩ = some (.string s) ∧ ww.cell? ⟨w.heap.size, 1, none⟩ = some (.int .i64 p) ∧ ww.cell? ⟨w.heap.size, 2, none⟩ = some (.int .i64 n) ∧ ww.cell? ⟨w.heap.size, 3, none⟩ = some (.bool true) ∧ ww.cell? ⟨w.heap.size, 4, none⟩ = some (.bool true)) ((refine ⟨?_, ?_, ?_, ?_, ?_⟩ <;> (first | ((repeat exact qM); done) | (go_simp; done)))) (first | (go_at_call 250; refine (HK.out _).mono ?_; rintro r4 w4 ⟨rfl, h4⟩; obtain ⟨hc4, hf4, hz4⟩ := qb h4; (try simp at hz4); (try have ⟨hl4_0, hk4_0⟩ := qL w.heap.size w4.heap.size); have RB4 : Two w4 (w.heap.size + 1) (0) (0) := qTw; have ⟨RB4_0, RB4_1, RB4_z, RB4_l⟩ := RB4) | (go_at_call 240; refine (HU.out _).mono ?_; rintro r5 w5 ⟨rfl, h5⟩; obtain ⟨hc5, hf5, hz5⟩ := qb h5; (try simp at hz5); (try have ⟨hl5_0, hk5_0⟩ := qL w.heap.size w5.heap.size); have RB5 : Two w5 (w.heap.size + 1) (0) (0) := qTw; have ⟨RB5_0, RB5_1, RB5_z, RB5_l⟩ := RB5))
   exact qt37
end Go.Proofs.YtlendfhehhacpaaGreat
