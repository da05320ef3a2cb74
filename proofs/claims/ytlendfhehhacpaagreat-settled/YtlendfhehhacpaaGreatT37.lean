/- A part. -/
import Derived.Test.YtlendfhehhacpaaGreatT33
set_option linter.unusedVariables false
set_option linter.unusedSimpArgs false
set_option maxRecDepth 100000
set_option maxHeartbeats 8000000
namespace Go.Proofs.YtlendfhehhacpaaGreat
open Go.RowKit Nib Tryz
theorem mDo_plain (v : Int) (r d m : Nat) (p : Pg) (i j : Nat) (l : Bool) (t2 : ByteArray) (q : Nat) (f : Int → Value) (w : World) (h : RdAt w r d p) (hg : RgAt w m f) (hm : p.regs = .map (some m)) (hmr : m ≠ r) (hmd : m ≠ d) (hs : p.t.size ≤ 1000) (hs2 : t2.size ≤ 1000) (hij : i ≤ j) (hj : j ≤ p.t.size) (hne : ¬ (i = j ∧ l = false)) (hq : q ≤ t2.size) (hv : v = 62 ∨ v = 60 ∨ v = 117 ∨ v = 85)
  (HD : qH 174 #[.int .u8 v, .string p.t, .agg #[.int .i64 i, .int .i64 j, .bool l], .int .i64 p.pl] (.tuple #[.string t2, .int .i64 q])) :
  Calls Tryz.prog 146 #[.pointer (some ⟨r, 0, none⟩), .int .u8 v, .agg #[.int .i64 i, .int .i64 j, .bool l]] w fun e w' => e = .returned (.int .i64 2) ∧ RdAt w' r d { p with t := t2, mode := 0, anchor := 0, pl := clm t2 q } ∧ RgAt w' m f ∧ Upd [d, m] w w' := by
 have HN : qH 172 #[.agg #[.int .i64 i, .int .i64 j, .bool l]] (.bool false) := by
  exact qt56
 have HT : qH 173 #[.string p.t, .agg #[.int .i64 i, .int .i64 j, .bool l]] (.agg #[.string (tkn p.t i j l), .bool l]) := fun ww => mTaken_piece p.t i j l ww hs hij hj
 generalize tkn p.t i j l = X at *
 have HBc : Hid (∀ ww, RdAt ww r d p → Calls Tryz.prog 175 #[.pointer (some ⟨d, 0, none⟩), .string t2] ww fun e w' => e = .returned (.bool true) ∧ RdAt w' r d { p with t := t2 } ∧ Upd [d] ww w') := fun ww hh => mBecome r d p t2 ww hh hs2
 have hml := hg.lt
 have HWs : qH 176 #[.int .u8 v] (.bool false) := fun ww => by
  rcases hv with hv | hv | hv | hv <;> subst hv <;> exact vWrites_any _ ww
 have HTN : Hid (∀ ww, RdAt ww r d { p with t := t2 } → Calls Tryz.prog 136 #[.pointer (some ⟨d, 0, none⟩)] ww fun e w' => e = .returned (.tuple #[]) ∧ RdAt w' r d { p with t := t2, mode := 0, anchor := 0 } ∧ Upd [d] ww w') := fun ww hh => mToNormal r d { p with t := t2 } ww hh
 have HMv : Hid (∀ ww, RdAt ww r d { p with t := t2, mode := 0, anchor := 0 } → Calls Tryz.prog 179 #[.pointer (some ⟨d, 0, none⟩), .int .i64 q] ww fun e w' => e = .returned (.tuple #[]) ∧ RdAt w' r d { p with t := t2, mode := 0, anchor := 0, pl := clm t2 q } ∧ Upd [d] ww w') := fun ww hh => mMoveTo r d { p with t := t2, mode := 0, anchor := 0 } q q ww hh hs2 rfl hq
 have v99 : (v == 99) = false := by simp; omega
 have v121 : (v == 121) = false := by simp; omega
 have v99' : (v != 99) = true := by simp; omega
 generalize hP6 : ({ p with t := t2, mode := 0, anchor := 0, pl := clm t2 q } : Pg) = P6 at *
 generalize hP5 : ({ p with t := t2, mode := 0, anchor := 0 } : Pg) = P5 at *
 generalize hP4 : ({ p with t := t2 } : Pg) = P4 at *
 clear hP4 hP5 hP6
 have H := h
 obtain ⟨c0, c1, c2, c3, c4, c5, c6, c7, c8, c9, fz, lt⟩ := h.dk
 obtain ⟨b0, b1, b2, b3, b4, b5, bz, bl⟩ := h.bg
 clear c2 c3 c4 c5 c6 c7 c8 c9 b1 b2 b3 b4 b5 h
 have l1 : r < w.heap.size + 1 := by omega
 have l2 : d < w.heap.size + 1 := by omega
 have l3 : ¬ w.heap.size = d := by omega
 have l4 : ¬ w.heap.size = r := by omega
 go_enter func146, ntmps146
 go_wp2_with fail
 refine (HN.out _).mono ?_
 rintro e w1 ⟨rfl, h1⟩
 obtain ⟨hc1, hf1, hz1⟩ := qb h1
 try simp at hz1
 have d0 : w1.cell? ⟨d, 0, none⟩ = some (.string p.t) := by rw [hc1 _ _ qs]; go_simp
 have d1 : w1.cell? ⟨d, 1, none⟩ = some (.int .i64 p.pl) := by rw [hc1 _ _ qs]; go_simp
 have r0 : w1.cell? ⟨r, 0, none⟩ = some (.pointer (some ⟨d, 0, none⟩)) := by rw [hc1 _ _ qs]; go_simp
 have p0 : w1.cell? ⟨w.heap.size, 0, none⟩ = some (.int .i64 i) := by rw [hc1 _ _ qi]; simp
 have p1 : w1.cell? ⟨w.heap.size, 1, none⟩ = some (.int .i64 j) := by rw [hc1 _ _ qi]; simp
 have p2 : w1.cell? ⟨w.heap.size, 2, none⟩ = some (.bool l) := by rw [hc1 _ _ qi]; simp
 have k1 : r < w1.heap.size := by omega
 have k2 : d < w1.heap.size := by omega
 have k3 : w.heap.size < w1.heap.size := by omega
 clear hc1 hf1
 go_wp2_with fail
 go_region_held3 (fun ww => ww.cell? ⟨r, 0, none⟩ = some (.pointer (some ⟨d, 0, none⟩)) ∧ ww.cell? ⟨d, 0, none⟩ = some (.string p.t) ∧ ww.cell? ⟨w.heap.size, 0, none⟩ = some (.int .i64 i) ∧ ww.cell? ⟨w.heap.size, 1, none⟩ = some (.int .i64 j) ∧ ww.cell? ⟨w.heap.size, 2, none⟩ = some (.bool l)) (exact qK) (first | (go_at_call 173; with_reducible refine Calls.mono (HT.out (w1.alloc (.cells #[.string ⟨#[]⟩, .bool false] 99)).drew) ?_; rintro r2 w2 ⟨rfl, h2⟩; obtain ⟨hc2, hf2, hz2⟩ := qb h2; simp at hz2; have hn0 : w2.cell? ⟨w1.heap.size, 0, none⟩ = some (.string ⟨#[]⟩) := (hc2 (w1.heap.size) 0 qi).trans qi; have hn1 : w2.cell? ⟨w1.heap.size, 1, none⟩ = some (.bool false) := (hc2 (w1.heap.size) 1 qi).trans qi; have hq2 : ∀ o, w2.frozen? ⟨w1.heap.size, o, none⟩ = false := (fun o => (hf2 (w1.heap.size) o qi).trans qi); clear hc2 hf2) | (go_at_call 173; with_reducible refine Calls.mono (HT.out w1.drew) ?_; rintro r2 w2 ⟨rfl, h2⟩; have hz2 := h2.size; simp at hz2))
 rename_i hHeld
 have E : DoAt w (w2.alloc (.cells #[.string X, .bool l] 99)) r d m w.heap.size w2.heap.size p f i j l X := by
  exact qt32
 clear hHeld h1 h2 hz2 hg H d0 d1 r0 p0 p1 p2
 generalize (w2.alloc (.cells #[.string X, .bool l] 99)) = W at *
 generalize w2.heap.size = k at *
 rotate_left
 rename_i hHeld
 have E : DoAt w ((w2.setCell ⟨w1.heap.size, 0, none⟩ (.string X)).setCell ⟨w1.heap.size, 1, none⟩ (.bool l)) r d m w.heap.size w1.heap.size p f i j l X := by
  exact qt25
 clear hHeld h1 h2 hz2 hg H d0 d1 r0 p0 p1 p2
 generalize ((w2.setCell ⟨w1.heap.size, 0, none⟩ (.string X)).setCell ⟨w1.heap.size, 1, none⟩ (.bool l)) = W at *
 generalize w1.heap.size = k at *
 rotate_left
 all_goals
  obtain ⟨rd, rg, p0, p1, p2, x0, x1, lb, lk, up, lw⟩ := E
  have H := rd
  have r0 := rd.bg.c0
  have d0 := rd.dk.c0
  have d1 := rd.dk.c1
  have hlr := rd.bg.lt
  have hld := rd.dk.lt
  go_wp2_with fail
  go_region_held3 (fun ww => ww.cell? ⟨r, 0, none⟩ = some (.pointer (some ⟨d, 0, none⟩)) ∧ ww.cell? ⟨d, 0, none⟩ = some (.string p.t) ∧ ww.cell? ⟨d, 1, none⟩ = some (.int .i64 p.pl) ∧ ww.cell? ⟨w.heap.size, 0, none⟩ = some (.int .i64 i) ∧ ww.cell? ⟨w.heap.size, 1, none⟩ = some (.int .i64 j) ∧ ww.cell? ⟨w.heap.size, 2, none⟩ = some (.bool l)) (exact qK) ((go_at_call 174; refine Calls.mono (HD.out _) ?_; rintro r3 w3 ⟨rfl, h3⟩; have hz3 := h3.size; (try simp at hz3); (try have ⟨hl3_0, hk3_0⟩ := qL d w3.heap.size); (try have ⟨hl3_1, hk3_1⟩ := qL r w3.heap.size); (try have ⟨hl3_2, hk3_2⟩ := qL w.heap.size w3.heap.size)))
  have H3 := (rd.drew).below h3
  have G3 := (rg.drew).below h3
  have y0 := memLater h3 (memLater ((Below.refl _ _).drew) x0)
  have y1 := memLater h3 (memLater ((Below.refl _ _).drew) x1)
  have up3 : Below w.heap.size w w3 := by
   repeat exact qB
  clear rd rg x0 x1 up h3 H r0 d0 d1
  go_wp2_with fail
  refine Calls.mono (HBc.out _ H3) ?_
  rintro e4 w4 ⟨rfl, H4, u4⟩
  have G4 : RgAt w4 m f := G3.of_block (u4.block m G3.lt (by simp; exact hmd))
  have z0 := u4.was y0 qs
  have z1 := u4.was y1 qs
  go_wp2_with fail
  refine Calls.mono (HWs.out _) ?_
  rintro e5 w5 ⟨rfl, h5⟩
  have H5 := H4.below h5
  have G5 := G4.below h5
  have U6 : Upd [d, m] w w5 := Upd.below (Upd.trans (Upd.of_below up3) (Upd.mono u4 qi)) h5
  have r0 := H5.bg.c0
  clear z0 z1 y0 y1 G4 G3 H3 H4 u4 h5 up3
  go_wp2_with fail
  refine Calls.mono (HTN.out _ H5) ?_
  rintro e7 w7 ⟨rfl, H7, u7⟩
  have G7 : RgAt w7 m f := G5.of_block (u7.block m G5.lt (by simp; exact hmd))
  have r7 := H7.bg.c0
  go_wp2_with fail
  refine Calls.mono (HMv.out _ H7) ?_
  rintro e8 w8 ⟨rfl, H8, u8⟩
  have G8 : RgAt w8 m f := G7.of_block (u8.block m G7.lt (by simp; exact hmd))
  have U8 : Upd [d, m] w w8 := (U6.trans (u7.mono qi)).trans (u8.mono qi)
  clear u7 u8 U6 H7 H5 G7 G5
  go_wp2
  go_ret
  exact ⟨rfl, H8, G8, U8⟩
theorem wes_lt {s : ByteArray} {g : Bool} {r : Nat} (h : r < s.size) : wes s g r < s.size := by
 rw [wes_eq h]
 split
 ·exact h
 ·rename_i hu
  have h1 : Nib.up (Nib.sp s) s.size (r + 1) ≤ s.size := up_le qo
  have h2 := wrun_le (s := s) (p := Nib.up (Nib.sp s) s.size (r + 1)) (g := g) h1
  have h3 := wrun_ge s (Nib.up (Nib.sp s) s.size (r + 1)) g
  have h4 := up_ge (Nib.sp s) s.size (r + 1)
  omega
theorem itr_wes_lt {s : ByteArray} {g : Bool} {r : Nat} (h : r < s.size) : ∀ n, itr (wes s g) n r < s.size := by
 intro n
 induction n with
 | zero => exact h
 | succ n ih => exact wes_lt ih
theorem sOwnEnd (s : ByteArray) (p n : Nat) (v c g : Bool) (w : World) (hs : s.size ≤ 1000) (hp : p < s.size) (hb : bt s p ≠ 10) (hn : n ≤ 99) :
  qC 248 #[.agg #[.string s, .int .i64 (p), .int .i64 (n), .bool v, .bool c], .bool g] w (.agg #[.int .i64 (itr (wes s g) (max n 1 - 1) (wrun s p g - 1) : Nat), .int .i64 1]) := by
 have hwg := wrun_gt (g := g) hp
 have hwl := wrun_le (s := s) (p := p) (g := g) qo
 have HR : qH 256 #[.string s, .int .i64 p, .bool g] (.agg #[.int .i64 (runB s p g), .int .i64 (wrun s p g)]) := fun ww => tRun_any s p p g ww hs rfl hp hb
 have HP : Hid (∀ (q : Nat), q < s.size → ∀ ww, qC 252 #[.string s, .int .i64 q, .bool g] ww (.int .i64 (wes s g q))) := fun q hq ww => sWordEnd_any s q g ww hs qo
 have HN : qH 241 #[.agg #[.string s, .int .i64 (p), .int .i64 (n), .bool v, .bool c]] (.int .i64 ((max n 1 : Nat) : Int)) := by
  exact qt45
 have hw1 : IntKind.i64.wrap ((wrun s p g : Int) - 1) = ((wrun s p g - 1 : Nat) : Int) := by rw [IntKind.wrap_i64]; omega
 have hw1' : ((wrun s p g : Nat) : Int) - 1 = ((wrun s p g - 1 : Nat) : Int) := by omega
 have hx := ix1 (runB s p g) (wrun s p g)
 have hq0 : wrun s p g - 1 < s.size := by omega
 obtain ⟨M, hM⟩ : ∃ M, max n 1 = M + 1 := ⟨max n 1 - 1, by omega⟩
 have hM2 : M ≤ 99 := by omega
 rw [hM] at HN
 rw [hM, Nat.add_sub_cancel]
 have hw2 : IntKind.i64.wrap (((M + 1 : Nat) : Int) - 1) = (M : Int) := by rw [IntKind.wrap_i64]; omega
 have hw3 : ((M + 1 : Nat) : Int) - 1 = (M : Int) := by omega
 generalize runB s p g = RB0 at *
 generalize hRE : wrun s p g = RE at *
 generalize hQ0 : RE - 1 = Q0 at *
 have HN2 : qH 241 #[.agg #[.string s, .int .i64 (p), .int .i64 (n), .bool v, .bool c]] (.int .i64 ((M : Int) + 1)) := by
  intro ww
  have := HN.out ww
  rw [show ((M + 1 : Nat) : Int) = (M : Int) + 1 by omega] at this
  exact this
 have hw5 : IntKind.i64.wrap ((M : Int) + 1 - 1) = (M : Int) := by rw [IntKind.wrap_i64]; omega
 clear hM hRE hQ0 HN hwg hwl hb hw2 hw3
 go_enter func248, ntmps248
 have F : Five ((w.alloc (.cells #[.string s, .int .i64 (p), .int .i64 (n), .bool v, .bool c] 206)).alloc (.cells #[.int .i64 0, .int .i64 0] 202)) w.heap.size s p n v c := Five.alloc (Five.new _ _ _ _ _ _ _) _
 have RB : Two ((w.alloc (.cells #[.string s, .int .i64 (p), .int .i64 (n), .bool v, .bool c] 206)).alloc (.cells #[.int .i64 0, .int .i64 0] 202)) (w.heap.size + 1) 0 0 := qN
 go_wp2_with fail
 refine (HR.out _).mono ?_
 rintro r1 w1 ⟨rfl, h1⟩
 obtain ⟨hc1, hf1, hz1⟩ := qb h1
 (try simp at hz1)
 have F1 : Five w1 (w.heap.size) s p n v c := qF
 have ⟨F1_0, F1_1, F1_2, F1_3, F1_4, F1_z, F1_l⟩ := F1
 have RB1 : Two w1 (w.heap.size + 1) (0) (0) := qTw
 have ⟨RB1_0, RB1_1, RB1_z, RB1_l⟩ := RB1
 clear hc1 hf1
 go_wp2_with fail
 refine (HN2.out _).mono ?_
 rintro r2 w2 ⟨rfl, h2⟩
 obtain ⟨hc2, hf2, hz2⟩ := qb h2
 (try simp at hz2)
 have F2 : Five w2 (w.heap.size) s p n v c := qF
 have ⟨F2_0, F2_1, F2_2, F2_3, F2_4, F2_z, F2_l⟩ := F2
 have RB2 : Two w2 (w.heap.size + 1) (0) (0) := qTw
 have ⟨RB2_0, RB2_1, RB2_z, RB2_l⟩ := RB2
 clear hc2 hf2
 go_wp2
 go_loopw [5, 17] (fun q i wr => ∃ k : Nat, k ≤ M ∧ q = .int .i64 (itr (wes s g) k Q0 : Nat) ∧ i = .int .i64 k ∧ Five wr w.heap.size s p n v c ∧ Two wr (w.heap.size + 1) 0 0 ∧ Below w.heap.size w wr) (fun _ i _ => M - (intOf i).toNat)
 case atStart =>
  refine ⟨0, by omega, by first | rfl | (simp [itr]; omega), rfl, F2, RB2, ?_⟩
  repeat exact qB
 case round =>
  clear F RB h1 h2 F1 RB1 F2 RB2 F1_0 F1_1 F1_2 F1_3 F1_4 F1_z F1_l RB1_0 RB1_1 RB1_z RB1_l F2_0 F2_1 F2_2 F2_3 F2_4 F2_z F2_l RB2_0 RB2_1 RB2_z RB2_l
  obtain ⟨k, hk, rfl, rfl, F, RB, hB⟩ := hrel
  have hq := itr_wes_lt (g := g) hq0 k
  have ⟨f0, f1, f2, f3, f4, fz, fl⟩ := F
  have r0 := (RB).c0
  have r1 := (RB).c1
  have rz := (RB).fz
  have rl := (RB).lt
  have hzz := hB.size
  by_cases hlt : k < M
  ·have HS : qH 252 #[.string s, .int .i64 (itr (wes s g) k Q0 : Nat), .bool g] (.int .i64 (itr (wes s g) (k + 1) Q0 : Nat)) := fun ww => HP.out _ hq ww
   generalize hA : itr (wes s g) (k + 1) Q0 = A at *
   go_wp2_with fail
   refine (HS.out _).mono ?_
   rintro r3 w3 ⟨rfl, h3⟩
   obtain ⟨hc3, hf3, hz3⟩ := qb h3
   (try simp at hz3)
   have F3 : Five w3 (w.heap.size) s p n v c := qF
   have ⟨F3_0, F3_1, F3_2, F3_3, F3_4, F3_z, F3_l⟩ := F3
   have RB3 : Two w3 (w.heap.size + 1) (0) (0) := qTw
   have ⟨RB3_0, RB3_1, RB3_z, RB3_l⟩ := RB3
   go_wp2
   go_round
   case rel =>
    refine ⟨k + 1, by omega, by rw [hA], by go_num, F3, RB3, ?_⟩
    repeat exact qB
   case measure => simp [intOf] <;> omega
  ·have ek : k = M := by omega
   subst ek
   generalize hA : itr (wes s g) k Q0 = A at *
   go_wp2
   exact qV (.agg #[.int .i64 A, .int .i64 1]) (by simp [results, results248, go_sem, r0, r1, rz, rl]) (by rw [hA])
theorem sToWord_ink (s : ByteArray) (p n : Nat) (g : Bool) (w : World) (hs : s.size ≤ 1000) (hp : p < s.size) (hb : bt s p ≠ 10) (hn : n ≤ 99) (hi : (decide (p < s.size) && !spc (bt s p)) = true) :
  qC 208 #[.agg #[.string s, .int .i64 (p), .int .i64 (n), .bool true, .bool true], .bool g] w (.tuple #[.agg #[.int .i64 (itr (wes s g) (max n 1 - 1) (wrun s p g - 1) : Nat), .int .i64 1], .bool true]) := by
 have HI : Hid (∀ ww, Calls Tryz.prog 247 #[.string s, .int .i64 p] ww fun e w' => e = .returned (.bool true) ∧ w' = ww) := by
  intro ww
  have := sHasInk_any s p p ww hs rfl qo
  rw [hi] at this
  exact this
 have HO : qH 248 #[.agg #[.string s, .int .i64 (p), .int .i64 (n), .bool true, .bool true], .bool g] (.agg #[.int .i64 (itr (wes s g) (max n 1 - 1) (wrun s p g - 1) : Nat), .int .i64 1]) := fun ww => sOwnEnd s p n true true g ww hs hp hb hn
 generalize itr (wes s g) (max n 1 - 1) (wrun s p g - 1) = A at *
 clear hi
 go_enter func208, ntmps208
 have RB : Two ((w.alloc (.cells #[.string s, .int .i64 (p), .int .i64 (n), .bool true, .bool true] 206)).alloc (.cells #[.int .i64 0, .int .i64 0] 202)) (w.heap.size + 1) 0 0 := qN
 go_wp2_with fail
 refine (HI.out _).mono ?_
 rintro e w' ⟨rfl, rfl⟩
 go_wp2_with fail
 refine (HO.out _).mono ?_
 rintro r1 w1 ⟨rfl, h1⟩
 obtain ⟨hc1, hf1, hz1⟩ := qb h1
 (try simp at hz1)
 have RB1 : Two w1 (w.heap.size + 1) (0) (0) := qTw
 have ⟨RB1_0, RB1_1, RB1_z, RB1_l⟩ := RB1
 clear hc1 hf1
 go_wp2
 exact qV (.tuple #[.agg #[.int .i64 A, .int .i64 1], .bool true]) (by simp [results, results208, go_sem, RB1_0, RB1_1, RB1_z, RB1_l]) rfl
theorem sToWord_noink (s : ByteArray) (p n : Nat) (g : Bool) (w : World) (hs : s.size ≤ 1000) (hp : p ≤ s.size) (hn : n ≤ 99) (hi : (decide (p < s.size) && !spc (bt s p)) = false) :
  qC 208 #[.agg #[.string s, .int .i64 (p), .int .i64 (n), .bool true, .bool true], .bool g] w (.tuple #[.agg #[.int .i64 (wayX (((wordQ s p (max n 1) g true : Int), 0, (wordQ s p (max n 1) g true : Int) == (p : Int)))), .int .i64 (wayK (((wordQ s p (max n 1) g true : Int), 0, (wordQ s p (max n 1) g true : Int) == (p : Int))))], .bool (wayZ (((wordQ s p (max n 1) g true : Int), 0, (wordQ s p (max n 1) g true : Int) == (p : Int))))]) := by
 have HI : Hid (∀ ww, Calls Tryz.prog 247 #[.string s, .int .i64 p] ww fun e w' => e = .returned (.bool false) ∧ w' = ww) := by
  intro ww
  have := sHasInk_any s p p ww hs rfl hp
  rw [hi] at this
  exact this
 clear hi
 have HP : Hid (∀ (q : Nat), q ≤ s.size → ∀ ww, qC 249 #[.string s, .int .i64 q, .bool g] ww (.int .i64 (wstep s g q))) := fun q hq ww => sWordStep_any s q g ww hs hq
 have HN : qH 241 #[.agg #[.string s, .int .i64 (p), .int .i64 (n), .bool true, .bool true]] (.int .i64 ((max n 1 : Nat) : Int)) := by
  intro ww
  have := sNumber_any s p n true true ww
  rw [show max (n : Int) 1 = ((max n 1 : Nat) : Int) by omega] at this
  exact this
 have hN1 : 1 ≤ max n 1 := by omega
 have hN2 : max n 1 ≤ 99 := by omega
 generalize max n 1 = N at *
 have HU : qH 240 #[.agg #[.string s, .int .i64 (p), .int .i64 (n), .bool true, .bool true], .int .i64 (wordQ s p N g true : Nat), .int .i64 0] (.tuple #[.agg #[.int .i64 (wayX (((wordQ s p N g true : Int), 0, (wordQ s p N g true : Int) == (p : Int)))), .int .i64 (wayK (((wordQ s p N g true : Int), 0, (wordQ s p N g true : Int) == (p : Int))))], .bool (wayZ (((wordQ s p N g true : Int), 0, (wordQ s p N g true : Int) == (p : Int))))]) := fun ww => sUnless_any s p n _ 0 true true ww
 generalize (((wordQ s p N g true : Nat) : Int), (0 : Int), (((wordQ s p N g true : Nat) : Int) == (p : Int))) = R at *
 have HK : qH 250 #[.string s, .int .i64 (itr (wstep s g) (N - 1) p : Nat), .int .i64 (itr (wstep s g) N p : Nat)] (.int .i64 (wordQ s p N g true : Nat)) := by
  exact qt49
 generalize wordQ s p N g true = Z at *
 go_enter func208, ntmps208
 have F : Five ((w.alloc (.cells #[.string s, .int .i64 (p), .int .i64 (n), .bool true, .bool true] 206)).alloc (.cells #[.int .i64 0, .int .i64 0] 202)) w.heap.size s p n true true := Five.alloc (Five.new _ _ _ _ _ _ _) _
 have RB : Two ((w.alloc (.cells #[.string s, .int .i64 (p), .int .i64 (n), .bool true, .bool true] 206)).alloc (.cells #[.int .i64 0, .int .i64 0] 202)) (w.heap.size + 1) 0 0 := qN
 go_wp2_with fail
 refine (HI.out _).mono ?_
 rintro e w' ⟨rfl, rfl⟩
 go_wp2_with fail
 go_region
 go_wp2_with fail
 refine (HN.out _).mono ?_
 rintro r1 w1 ⟨rfl, h1⟩
 obtain ⟨hc1, hf1, hz1⟩ := qb h1
 (try simp at hz1)
 have F1 : Five w1 (w.heap.size) s p n true true := qF
 have ⟨F1_0, F1_1, F1_2, F1_3, F1_4, F1_z, F1_l⟩ := F1
 have RB1 : Two w1 (w.heap.size + 1) (0) (0) := qTw
 have ⟨RB1_0, RB1_1, RB1_z, RB1_l⟩ := RB1
 go_wp2
 go_loopw [6, 7, 27] (fun f q i wr => ∃ k : Nat, k ≤ N ∧ f = .int .i64 (itr (wstep s g) (k - 1) p : Nat) ∧ q = .int .i64 (itr (wstep s g) k p : Nat) ∧ i = .int .i64 k ∧ Five wr w.heap.size s p n true true ∧ Two wr (w.heap.size + 1) 0 0 ∧ Below w.heap.size w wr) (fun _ _ i _ => N - (intOf i).toNat)
 case atStart =>
  refine ⟨0, by omega, rfl, rfl, rfl, F1, RB1, ?_⟩
  repeat exact qB
 case round =>
  clear F RB h1 hc1 hf1 F1_0 F1_1 F1_2 F1_3 F1_4 F1_z F1_l RB1_0 RB1_1 RB1_z RB1_l
  obtain ⟨k, hk, rfl, rfl, rfl, F, RB, hB⟩ := hrel
  have hq := itr_w_le (g := g) hp k
  have ⟨f0, f1, f2, f3, f4, fz, fl⟩ := F
  have r0 := (RB).c0
  have r1 := (RB).c1
  have rz := (RB).fz
  have rl := (RB).lt
  have hzz := hB.size
  by_cases hlt : k < N
  ·have HS : qH 249 #[.string s, .int .i64 (itr (wstep s g) k p : Nat), .bool g] (.int .i64 (itr (wstep s g) (k + 1) p : Nat)) := fun ww => HP.out _ hq ww
   generalize hA : itr (wstep s g) (k + 1) p = A at *
   go_wp2_with fail
   refine (HS.out _).mono ?_
   rintro r2 w2 ⟨rfl, h2⟩
   obtain ⟨hc2, hf2, hz2⟩ := qb h2
   (try simp at hz2)
   have F2 : Five w2 (w.heap.size) s p n true true := qF
   exact qt73
  ·have ek : k = N := by omega
   subst ek
   generalize itr (wstep s g) (k - 1) p = E at *
   generalize itr (wstep s g) k p = A at *
   have s0 := f0; have s1 := f1; have s2 := f2; have s3 := f3; have s4 := f4
   clear HP HN F f0 f1 f2 f3 f4
   go_wp2_with fail
   go_region_held3 (fun ww => ww.cell? ⟨w.heap.size, 0, none⟩ = some (.string s) ∧ ww.cell? ⟨w.heap.size, 1, none⟩ = some (.int .i64 p) ∧ ww.cell? ⟨w.heap.size, 2, none⟩ = some (.int .i64 n) ∧ ww.cell? ⟨w.heap.size, 3, none⟩ = some (.bool true) ∧ ww.cell? ⟨w.heap.size, 4, none⟩ = some (.bool true)) ((refine ⟨?_, ?_, ?_, ?_, ?_⟩ <;> (first | ((repeat exact qM); done) | (go_simp; done)))) (first | (go_at_call 250; refine (HK.out _).mono ?_; rintro r4 w4 ⟨rfl, h4⟩; obtain ⟨hc4, hf4, hz4⟩ := qb h4; (try simp at hz4); (try have ⟨hl4_0, hk4_0⟩ := qL w.heap.size w4.heap.size); have RB4 : Two w4 (w.heap.size + 1) (0) (0) := qTw; have ⟨RB4_0, RB4_1, RB4_z, RB4_l⟩ := RB4) | (go_at_call 240; refine (HU.out _).mono ?_; rintro r5 w5 ⟨rfl, h5⟩; obtain ⟨hc5, hf5, hz5⟩ := qb h5; (try simp at hz5); (try have ⟨hl5_0, hk5_0⟩ := qL w.heap.size w5.heap.size); have RB5 : Two w5 (w.heap.size + 1) (0) (0) := qTw; have ⟨RB5_0, RB5_1, RB5_z, RB5_l⟩ := RB5))
   exact qt37
theorem mBegin_i (r d : Nat) (p : Pg) (w : World) (h : RdAt w r d p) (hs : p.t.size ≤ 1000) (hl : p.pl ≤ p.t.size) :
  Calls Tryz.prog 152 #[.agg #[.pointer (some ⟨r, 0, none⟩)], .int .u8 105] w fun e w' => e = .returned (.int .i64 1) ∧ RdAt w' r d { p with mode := 1, anchor := 0, pl := p.pl } ∧ Upd [d] w w' := by
 have HL : Hid (∀ ww, RdAt ww r d p → qC 181 #[.pointer (some ⟨d, 0, none⟩)] ww (.agg #[.int .i64 (beg p.t p.pl), .int .i64 (fin p.t p.pl)])) := fun ww hh => mLine r d p ww hh hs hl
 have HI : Hid (∀ ww, RdAt ww r d p → Calls Tryz.prog 178 #[.pointer (some ⟨d, 0, none⟩), .int .i64 p.pl] ww fun e w' => e = .returned (.int .i64 1) ∧ RdAt w' r d { p with mode := 1, anchor := 0, pl := p.pl } ∧ Upd [d] ww w') := fun ww hh => mInsertAt r d p p.pl ww hh
 have H := h
 have b0 := h.bg.c0
 have bl := h.bg.lt
 have c1 := h.dk.c1
 have dl := h.dk.lt
 have l1 : r < w.heap.size + 1 := by omega
 have l2 : d < w.heap.size + 1 := by omega
 generalize hP : ({ p with mode := 1, anchor := 0, pl := p.pl } : Pg) = p2 at *
 generalize beg p.t p.pl = LB at *
 generalize fin p.t p.pl = LE at *
 have q2 : p2.pl = p.pl := by rw [← hP]
 clear hP
 go_enter func152, ntmps152
 go_wp2_with fail
 refine Calls.mono (HL.out _ qRd) ?_
 rintro e w1 ⟨rfl, h1⟩
 have hz1 := h1.size
 (try simp at hz1)
 have g0 : w1.cell? ⟨w.heap.size, 0, none⟩ = some (.pointer (some ⟨r, 0, none⟩)) := memLater h1 qi
 go_wp2_with fail
 go_region_held3 (fun ww => ww.cell? ⟨w.heap.size, 0, none⟩ = some (.pointer (some ⟨r, 0, none⟩)) ∧ ww.cell? ⟨r, 0, none⟩ = some (.pointer (some ⟨d, 0, none⟩)) ∧ ww.cell? ⟨d, 1, none⟩ = some (.int .i64 p.pl)) (exact qK) ((go_at_call 178; refine Calls.mono (HI.out _ qRd) ?_; rintro r3 w3 ⟨rfl, h3, u3⟩; have hz3 := u3.size; (try simp at hz3); have a0 := h3.bg.c0; have a1 := h3.dk.c1; rw [q2] at a1; have a2 := u3.was (b := w.heap.size) (o := 0) (v := .pointer (some ⟨r, 0, none⟩)) qM qs))
 exact qt15
theorem mBegin_A (r d : Nat) (p : Pg) (w : World) (h : RdAt w r d p) (hs : p.t.size ≤ 1000) (hl : p.pl ≤ p.t.size) :
  Calls Tryz.prog 152 #[.agg #[.pointer (some ⟨r, 0, none⟩)], .int .u8 65] w fun e w' => e = .returned (.int .i64 1) ∧ RdAt w' r d { p with mode := 1, anchor := 0, pl := fin p.t p.pl } ∧ Upd [d] w w' := by
 have HL : Hid (∀ ww, RdAt ww r d p → qC 181 #[.pointer (some ⟨d, 0, none⟩)] ww (.agg #[.int .i64 (beg p.t p.pl), .int .i64 (fin p.t p.pl)])) := fun ww hh => mLine r d p ww hh hs hl
 have HI : Hid (∀ ww, RdAt ww r d p → Calls Tryz.prog 178 #[.pointer (some ⟨d, 0, none⟩), .int .i64 ((fin p.t p.pl : Nat) : Int)] ww fun e w' => e = .returned (.int .i64 1) ∧ RdAt w' r d { p with mode := 1, anchor := 0, pl := fin p.t p.pl } ∧ Upd [d] ww w') := fun ww hh => mInsertAt r d p (fin p.t p.pl) ww hh
 have H := h
 have b0 := h.bg.c0
 have bl := h.bg.lt
 have c1 := h.dk.c1
 have dl := h.dk.lt
 have l1 : r < w.heap.size + 1 := by omega
 have l2 : d < w.heap.size + 1 := by omega
 generalize hP : ({ p with mode := 1, anchor := 0, pl := fin p.t p.pl } : Pg) = p2 at *
 generalize beg p.t p.pl = LB at *
 generalize fin p.t p.pl = LE at *
 clear hP
 go_enter func152, ntmps152
 go_wp2_with fail
 refine Calls.mono (HL.out _ qRd) ?_
 rintro e w1 ⟨rfl, h1⟩
 have hz1 := h1.size
 (try simp at hz1)
 have g0 : w1.cell? ⟨w.heap.size, 0, none⟩ = some (.pointer (some ⟨r, 0, none⟩)) := memLater h1 qi
 have x0 : (w1.alloc (.cells #[.int .i64 LB, .int .i64 LE] 128)).cell? ⟨w1.heap.size, 0, none⟩ = some (.int .i64 LB) := by simp
 have x1 : (w1.alloc (.cells #[.int .i64 LB, .int .i64 LE] 128)).cell? ⟨w1.heap.size, 1, none⟩ = some (.int .i64 LE) := by simp
 go_wp2_with fail
 go_region_held3 (fun ww => ww.cell? ⟨w.heap.size, 0, none⟩ = some (.pointer (some ⟨r, 0, none⟩)) ∧ ww.cell? ⟨r, 0, none⟩ = some (.pointer (some ⟨d, 0, none⟩)) ∧ ww.cell? ⟨w1.heap.size, 0, none⟩ = some (.int .i64 LB) ∧ ww.cell? ⟨w1.heap.size, 1, none⟩ = some (.int .i64 LE)) (exact qK) ((go_at_call 178; refine Calls.mono (HI.out _ qRd) ?_; rintro r3 w3 ⟨rfl, h3, u3⟩; have hz3 := u3.size; (try simp at hz3); have a0 := h3.bg.c0; have b1 := u3.was (b := w1.heap.size) (o := 0) (v := .int .i64 LB) (memLater ((Below.refl _ _).drew) x0) qs; have b2 := u3.was (b := w1.heap.size) (o := 1) (v := .int .i64 LE) (memLater ((Below.refl _ _).drew) x1) qs; have a2 := u3.was (b := w.heap.size) (o := 0) (v := .pointer (some ⟨r, 0, none⟩)) qM qs))
 exact qt15
theorem mBegin_I (r d : Nat) (p : Pg) (w : World) (h : RdAt w r d p) (hs : p.t.size ≤ 1000) (hl : p.pl ≤ p.t.size) :
  Calls Tryz.prog 152 #[.agg #[.pointer (some ⟨r, 0, none⟩)], .int .u8 73] w fun e w' => e = .returned (.int .i64 1) ∧ RdAt w' r d { p with mode := 1, anchor := 0, pl := ind p.t p.pl } ∧ Upd [d] w w' := by
 have HL : Hid (∀ ww, RdAt ww r d p → qC 181 #[.pointer (some ⟨d, 0, none⟩)] ww (.agg #[.int .i64 (beg p.t p.pl), .int .i64 (fin p.t p.pl)])) := fun ww hh => mLine r d p ww hh hs hl
 have HI : Hid (∀ ww, RdAt ww r d p → Calls Tryz.prog 178 #[.pointer (some ⟨d, 0, none⟩), .int .i64 ((ind p.t p.pl : Nat) : Int)] ww fun e w' => e = .returned (.int .i64 1) ∧ RdAt w' r d { p with mode := 1, anchor := 0, pl := ind p.t p.pl } ∧ Upd [d] ww w') := fun ww hh => mInsertAt r d p (ind p.t p.pl) ww hh
 have HN : qH 187 #[.string p.t, .agg #[.int .i64 (beg p.t p.pl), .int .i64 (fin p.t p.pl)]] (.agg #[.int .i64 (beg p.t p.pl), .int .i64 (ind p.t p.pl)]) := fun ww => tIndent_any p.t _ _ p.pl ww hs hl rfl rfl
 have c0 := h.dk.c0
 have H := h
 have b0 := h.bg.c0
 have bl := h.bg.lt
 have c1 := h.dk.c1
 have dl := h.dk.lt
 have l1 : r < w.heap.size + 1 := by omega
 have l2 : d < w.heap.size + 1 := by omega
 generalize hP : ({ p with mode := 1, anchor := 0, pl := ind p.t p.pl } : Pg) = p2 at *
 generalize beg p.t p.pl = LB at *
 generalize fin p.t p.pl = LE at *
 generalize ind p.t p.pl = LI at *
 have hx := ix1 LB LI
 have q2 : p2.t = p.t := by rw [← hP]
 clear hP
 go_enter func152, ntmps152
 go_wp2_with fail
 refine Calls.mono (HL.out _ qRd) ?_
 rintro e w1 ⟨rfl, h1⟩
 have hz1 := h1.size
 (try simp at hz1)
 have g0 : w1.cell? ⟨w.heap.size, 0, none⟩ = some (.pointer (some ⟨r, 0, none⟩)) := memLater h1 qi
 have x0 : (w1.alloc (.cells #[.int .i64 LB, .int .i64 LE] 128)).cell? ⟨w1.heap.size, 0, none⟩ = some (.int .i64 LB) := by simp
 have x1 : (w1.alloc (.cells #[.int .i64 LB, .int .i64 LE] 128)).cell? ⟨w1.heap.size, 1, none⟩ = some (.int .i64 LE) := by simp
 go_wp2_with fail
 go_region_held3 (fun ww => ww.cell? ⟨w.heap.size, 0, none⟩ = some (.pointer (some ⟨r, 0, none⟩)) ∧ ww.cell? ⟨r, 0, none⟩ = some (.pointer (some ⟨d, 0, none⟩)) ∧ ww.cell? ⟨d, 0, none⟩ = some (.string p.t) ∧ ww.cell? ⟨w1.heap.size, 0, none⟩ = some (.int .i64 LB) ∧ ww.cell? ⟨w1.heap.size, 1, none⟩ = some (.int .i64 LE)) (exact qK) (first | (go_at_call 187; refine Calls.mono (HN.out _) ?_; rintro r2 w2 ⟨rfl, h2⟩; have hz2 := h2.size; (try simp at hz2); (try have ⟨hl2_0, hk2_0⟩ := qL d w2.heap.size); (try have ⟨hl2_1, hk2_1⟩ := qL r w2.heap.size); (try have ⟨hl2_2, hk2_2⟩ := qL w.heap.size w2.heap.size); (try have ⟨hl2_3, hk2_3⟩ := qL w1.heap.size w2.heap.size)) | (go_at_call 178; refine Calls.mono (HI.out _ qRd) ?_; rintro r3 w3 ⟨rfl, h3, u3⟩; have hz3 := u3.size; (try simp at hz3); have a0 := h3.bg.c0; have a1 := h3.dk.c0; rw [q2] at a1; have b1 := u3.was (b := w1.heap.size) (o := 0) (v := .int .i64 LB) (memLater h2 (memLater ((Below.refl _ _).drew) x0)) qs; have b2 := u3.was (b := w1.heap.size) (o := 1) (v := .int .i64 LE) (memLater h2 (memLater ((Below.refl _ _).drew) x1)) qs; have a2 := u3.was (b := w.heap.size) (o := 0) (v := .pointer (some ⟨r, 0, none⟩)) qM qs))
 exact qt15
theorem mBegin_a (r d : Nat) (p : Pg) (w : World) (h : RdAt w r d p) (hs : p.t.size ≤ 1000) (hl : p.pl ≤ p.t.size) :
  Calls Tryz.prog 152 #[.agg #[.pointer (some ⟨r, 0, none⟩)], .int .u8 97] w fun e w' => e = .returned (.int .i64 1) ∧ RdAt w' r d { p with mode := 1, anchor := 0, pl := min (p.pl + 1) (fin p.t p.pl) } ∧ Upd [d] w w' := by
 have HL : Hid (∀ ww, RdAt ww r d p → qC 181 #[.pointer (some ⟨d, 0, none⟩)] ww (.agg #[.int .i64 (beg p.t p.pl), .int .i64 (fin p.t p.pl)])) := fun ww hh => mLine r d p ww hh hs hl
 obtain ⟨MI, hMI, hcase⟩ : ∃ MI : Int, MI = ((min (p.pl + 1) (fin p.t p.pl) : Nat) : Int) ∧ ((MI = (fin p.t p.pl : Nat) ∧ fin p.t p.pl < p.pl + 1 ∧ ((fin p.t p.pl : Nat) : Int) < (p.pl : Int) + 1) ∨ (MI = (p.pl : Int) + 1 ∧ ¬ fin p.t p.pl < p.pl + 1 ∧ ¬ ((fin p.t p.pl : Nat) : Int) < (p.pl : Int) + 1)) := ⟨_, rfl, by omega⟩
 have HI : Hid (∀ ww, RdAt ww r d p → Calls Tryz.prog 178 #[.pointer (some ⟨d, 0, none⟩), .int .i64 MI] ww fun e w' => e = .returned (.int .i64 1) ∧ RdAt w' r d { p with mode := 1, anchor := 0, pl := min (p.pl + 1) (fin p.t p.pl) } ∧ Upd [d] ww w') := by
  intro ww hh
  rw [hMI]
  exact mInsertAt r d p _ ww hh
 have H := h
 have b0 := h.bg.c0
 have bl := h.bg.lt
 have c1 := h.dk.c1
 have dl := h.dk.lt
 have l1 : r < w.heap.size + 1 := by omega
 have l2 : d < w.heap.size + 1 := by omega
 have hwr : IntKind.i64.wrap ((p.pl : Int) + 1) = (p.pl : Int) + 1 := by rw [IntKind.wrap_i64]; omega
 generalize hP : ({ p with mode := 1, anchor := 0, pl := min (p.pl + 1) (fin p.t p.pl) } : Pg) = p2 at *
 generalize beg p.t p.pl = LB at *
 generalize fin p.t p.pl = LE at *
 clear hP hMI
 rcases hcase with ⟨hm, hm1, hm2⟩ | ⟨hm, hm1, hm2⟩
 all_goals
  subst hm
  go_enter func152, ntmps152
  go_wp2_with fail
  refine Calls.mono (HL.out _ qRd) ?_
  rintro e w1 ⟨rfl, h1⟩
  have hz1 := h1.size
  (try simp at hz1)
  have g0 : w1.cell? ⟨w.heap.size, 0, none⟩ = some (.pointer (some ⟨r, 0, none⟩)) := memLater h1 qi
  go_wp2_with fail
  have H1 : RdAt (w1.alloc (.cells #[.int .i64 LB, .int .i64 LE] 128)) r d p := ((H.alloc _).below h1).alloc _
  have g1 : (w1.alloc (.cells #[.int .i64 LB, .int .i64 LE] 128)).cell? ⟨w.heap.size, 0, none⟩ = some (.pointer (some ⟨r, 0, none⟩)) := memLater ((Below.refl _ _).alloc (Nat.le_refl _) _) g0
  have x1 : (w1.alloc (.cells #[.int .i64 LB, .int .i64 LE] 128)).cell? ⟨w1.heap.size, 1, none⟩ = some (.int .i64 LE) := by simp
  have U1 : Upd [d] w (w1.alloc (.cells #[.int .i64 LB, .int .i64 LE] 128)) := by
   repeat exact qU
  have k1 : w.heap.size < (w1.alloc (.cells #[.int .i64 LB, .int .i64 LE] 128)).heap.size := by simp; omega
  have k2 : w1.heap.size < (w1.alloc (.cells #[.int .i64 LB, .int .i64 LE] 128)).heap.size := by simp
  generalize (w1.alloc (.cells #[.int .i64 LB, .int .i64 LE] 128)) = W at *
  have r0 := H1.bg.c0
  have e1 := H1.dk.c1
  refine wp_region_held_drew (S := fun ww => ww.cell? ⟨w.heap.size, 0, none⟩ = some (.pointer (some ⟨r, 0, none⟩)) ∧ ww.cell? ⟨r, 0, none⟩ = some (.pointer (some ⟨d, 0, none⟩)) ∧ ww.cell? ⟨w1.heap.size, 1, none⟩ = some (.int .i64 LE)) qk ?_ (fun hHeld => ?_)
  ·exact ⟨memLater ((Below.refl _ _).drew) g1, memLater ((Below.refl _ _).drew) r0, memLater ((Below.refl _ _).drew) x1⟩
  refine qT 0 ?_
  simp only [Act.put, qP]
  refine qT 1 ?_
  simp only [Act.put, qP]
  refine qT 2 ?_
  simp only [Act.put, qP]
  refine qT 3 ?_
  simp only [Act.put, qP]
  refine qT 4 ?_
  simp only [Act.put, qP]
  refine qT 5 ?_
  simp only [Act.put, qP]
  refine qT 6 ?_
  simp only [Act.put, qP]
  refine qT 7 ?_
  simp only [Act.put, qP]
  refine qT 8 ?_
  simp only [Act.put, qP]
  refine qT 9 ?_
  simp only [Act.put, qP]
  refine qT 10 ?_
  simp only [Act.put, qP]
  refine qT 11 ?_
  simp only [Act.put, qP]
  refine qT 14 ?_
  simp only [Act.put, qP]
  refine qT 15 ?_
  simp only [Act.put, qP]
  have e1' : W.drew.cell? ⟨d, 1, none⟩ = some (.int .i64 p.pl) := memLater ((Below.refl _ _).drew) e1
  refine qR 12 fun K hK => ?_
  rw [if_pos (by rfl)]
  go_wp2_with fail
  refine hK.out _ _ ?_ (fun hHeld => ?_)
  ·exact ⟨memLater ((Below.refl _ _).drew) g1, memLater ((Below.refl _ _).drew) r0, memLater ((Below.refl _ _).drew) x1⟩
  clear hK K
  try simp only [Act.put, qP]
  refine qT 13 ?_
  simp only [Act.put, qP]
  refine qT 16 ?_
  simp only [Act.put, qP]
  refine qR 17 fun K hK => ?_
  rw [if_pos (by rfl)]
  go_wp2_with fail
  refine Calls.mono (HI.out _ H1.drew) ?_
  rintro r3 w3 ⟨rfl, h3, u3⟩
  have hz3 := u3.size
  (try simp at hz3)
  go_wp2_with fail
  refine hK.out _ _ ?_ (fun hHeld => ?_)
  ·exact ⟨u3.was (memLater ((Below.refl _ _).drew) g1) qs, h3.bg.c0, u3.was (memLater ((Below.refl _ _).drew) x1) qs⟩
  clear hK K
  try simp only [Act.put, qP]
  refine qT 18 ?_
  simp only [Act.put, qP]
  refine wpAnyH_done qk ?_ _
  go_wp2
  go_ret
  refine ⟨rfl, ?_, ?_⟩
  ·exact h3
  ·exact Upd.trans (Upd.drew U1) u3
def escPl (p : Pg) : Nat := max (p.pl - 1) (beg p.t p.pl)
theorem iEscape (r d : Nat) (p : Pg) (w : World) (h : RdAt w r d p) (hs : p.t.size ≤ 1000) (hl : p.pl ≤ p.t.size) :
  Calls Tryz.prog 304 #[.agg #[.pointer (some ⟨d, 0, none⟩)]] w fun e w' => e = .returned (.int .i64 2) ∧ RdAt w' r d { p with pl := escPl p, mode := 0, anchor := 0 } ∧ Upd [d] w w' := by
 have HL : Hid (∀ ww, RdAt ww r d p → qC 181 #[.pointer (some ⟨d, 0, none⟩)] ww (.agg #[.int .i64 (beg p.t p.pl), .int .i64 (fin p.t p.pl)])) := fun ww hh => mLine r d p ww hh hs hl
 have HN : Hid (∀ ww, RdAt ww r d { p with pl := escPl p } → Calls Tryz.prog 136 #[.pointer (some ⟨d, 0, none⟩)] ww fun e w' => e = .returned (.tuple #[]) ∧ RdAt w' r d { p with pl := escPl p, mode := 0, anchor := 0 } ∧ Upd [d] ww w') := fun ww hh => mToNormal r d _ ww hh
 have hbl := beg_le p.t p.pl
 obtain ⟨MI, hMI, hcase⟩ : ∃ MI : Int, MI = ((escPl p : Nat) : Int) ∧ ((MI = (beg p.t p.pl : Nat) ∧ (p.pl : Int) - 1 < ((beg p.t p.pl : Nat) : Int)) ∨ (MI = (p.pl : Int) - 1 ∧ ¬ (p.pl : Int) - 1 < ((beg p.t p.pl : Nat) : Int))) := ⟨_, rfl, by unfold escPl; omega⟩
 have HS : Hid (∀ ww, RdAt ww r d p → RdAt (ww.setCell ⟨d, 1, none⟩ (.int .i64 MI)) r d { p with pl := escPl p }) := by
  intro ww hh
  rw [hMI]
  exact hh.set_pl _
 have H := h
 have c1 := h.dk.c1
 have dl := h.dk.lt
 have l2 : d < w.heap.size + 1 := by omega
 have hwr : IntKind.i64.wrap ((p.pl : Int) - 1) = (p.pl : Int) - 1 := by rw [IntKind.wrap_i64]; omega
 have hx := ix0 (beg p.t p.pl) (fin p.t p.pl)
 generalize hP : ({ p with pl := escPl p, mode := 0, anchor := 0 } : Pg) = p2 at *
 generalize hP3 : ({ p with pl := escPl p } : Pg) = p3 at *
 generalize beg p.t p.pl = LB at *
 generalize fin p.t p.pl = LE at *
 clear hP hP3 hMI hbl
 rcases hcase with ⟨hm, hm1⟩ | ⟨hm, hm1⟩
 all_goals
  subst hm
  go_enter func304, ntmps304
  go_wp2_with fail
  have H1 : RdAt (w.alloc (.cells #[.pointer (some ⟨d, 0, none⟩)] 80)) r d p := H.alloc _
  have g0 : (w.alloc (.cells #[.pointer (some ⟨d, 0, none⟩)] 80)).cell? ⟨w.heap.size, 0, none⟩ = some (.pointer (some ⟨d, 0, none⟩)) := by simp
  have U1 : Upd [d] w (w.alloc (.cells #[.pointer (some ⟨d, 0, none⟩)] 80)) := by
   repeat exact qU
  have k1 : w.heap.size < (w.alloc (.cells #[.pointer (some ⟨d, 0, none⟩)] 80)).heap.size := by simp
  generalize (w.alloc (.cells #[.pointer (some ⟨d, 0, none⟩)] 80)) = W at *
  have e1' : W.drew.cell? ⟨d, 1, none⟩ = some (.int .i64 p.pl) := memLater ((Below.refl _ _).drew) H1.dk.c1
  have hd1 := H1.dk.lt
  refine wp_region_held_drew (S := fun ww => ww.cell? ⟨w.heap.size, 0, none⟩ = some (.pointer (some ⟨d, 0, none⟩))) qk ?_ (fun hHeld => ?_)
  ·exact memLater ((Below.refl _ _).drew) g0
  refine qT 0 ?_
  simp only [Act.put, qP]
  refine qT 1 ?_
  simp only [Act.put, qP]
  refine qT 2 ?_
  simp only [Act.put, qP]
  refine qT 3 ?_
  simp only [Act.put, qP]
  refine qT 4 ?_
  simp only [Act.put, qP]
  refine qT 5 ?_
  simp only [Act.put, qP]
  refine qT 8 ?_
  simp only [Act.put, qP]
  refine qT 9 ?_
  simp only [Act.put, qP]
  refine wpAnyH_ready (rs := [6, 10]) qk qi (AllReadyH.cons rfl (fun K hK => ?_) (AllReadyH.cons rfl (fun K hK => ?_) AllReadyH.nil))
  ·rw [if_pos (by rfl)]
   go_wp2_with fail
   refine hK.out _ _ (memLater ((Below.refl _ _).drew) g0) (fun hHeld => ?_)
   clear hK K
   try simp only [Act.put, qP]
   refine qT 7 ?_
   simp only [Act.put, qP]
   refine qR 10 fun K hK => ?_
   rw [if_pos (by rfl)]
   go_wp2_with fail
   refine (HL.out _ H1.drew).mono ?_
   rintro r1 w1 ⟨rfl, h1⟩
   obtain ⟨hc1, hf1, hz1⟩ := qb h1
   (try simp at hz1)
   go_wp2_with fail
   refine hK.out _ _ ?_ (fun hHeld => ?_)
   ·exact memLater h1 (memLater ((Below.refl _ _).drew) g0)
   clear hK K
   try simp only [Act.put, qP]
   have H2 := (H1.drew).below h1
   have f1 := H2.dk.c1
   have fz := H2.dk.fz
   have fl := H2.dk.lt
   have fg := memLater h1 (memLater ((Below.refl _ _).drew) g0)
   clear hc1 hf1
   refine qT 11 ?_
   simp only [Act.put, qP]
   refine qT 12 ?_
   simp only [Act.put, qP]
   refine qT 13 ?_
   simp only [Act.put, qP]
   refine qT 14 ?_
   simp only [Act.put, qP]
   refine qR 15 fun K hK => ?_
   rw [if_pos (by rfl)]
   go_wp2_with fail
   refine hK.out _ _ ?_ (fun hHeld => ?_)
   ·go_simp
   clear hK K
   try simp only [Act.put, qP]
   refine wpAnyH_done qk ?_ _
   have HS2 := HS.out _ H2
   go_wp2_with fail
   refine Calls.mono (HN.out _ HS2) ?_
   rintro e w2 ⟨rfl, h2, u2⟩
   go_wp2
   go_ret
   refine ⟨rfl, h2, ?_⟩
   exact Upd.trans (Upd.setCell (Upd.below (Upd.drew U1) h1) (Or.inl qi) _) u2
  ·rw [if_pos (by rfl)]
   go_wp2_with fail
   refine (HL.out _ H1.drew).mono ?_
   rintro r1 w2 ⟨rfl, h1⟩
   have hz1 := h1.size
   (try simp at hz1)
   have H2 := (H1.drew).below h1
   have f1 := H2.dk.c1
   have fz := H2.dk.fz
   have fl := H2.dk.lt
   have fg := memLater h1 (memLater ((Below.refl _ _).drew) g0)
   go_wp2_with fail
   refine hK.out _ _ fg (fun hHeld => ?_)
   clear hK K
   try simp only [Act.put, qP]
   refine qT 11 ?_
   simp only [Act.put, qP]
   refine qR 6 fun K hK => ?_
   rw [if_pos (by rfl)]
   go_wp2_with fail
   refine hK.out _ _ ?_ (fun hHeld => ?_)
   ·exact fg
   clear hK K
   try simp only [Act.put, qP]
   refine qT 7 ?_
   simp only [Act.put, qP]
   refine qT 12 ?_
   simp only [Act.put, qP]
   refine qT 13 ?_
   simp only [Act.put, qP]
   refine qT 14 ?_
   simp only [Act.put, qP]
   refine qR 15 fun K hK => ?_
   rw [if_pos (by rfl)]
   go_wp2_with fail
   refine hK.out _ _ ?_ (fun hHeld => ?_)
   ·go_simp
   clear hK K
   try simp only [Act.put, qP]
   refine wpAnyH_done qk ?_ _
   have HS2 := HS.out _ H2
   go_wp2_with fail
   refine Calls.mono (HN.out _ HS2) ?_
   rintro e w3 ⟨rfl, h2, u2⟩
   go_wp2
   go_ret
   refine ⟨rfl, h2, ?_⟩
   exact Upd.trans (Upd.setCell (Upd.below (Upd.drew U1) h1) (Or.inl qi) _) u2
