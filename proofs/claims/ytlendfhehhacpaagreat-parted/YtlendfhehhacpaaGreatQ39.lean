/- A part. -/
import Derived.Test.YtlendfhehhacpaaGreatQ25
import Derived.Test.YtlendfhehhacpaaGreatQ24
import Derived.Laws.RangeString
set_option linter.unusedVariables false
set_option linter.unusedSimpArgs false
set_option maxRecDepth 100000
set_option maxHeartbeats 8000000
namespace Go.Proofs.YtlendfhehhacpaaGreat
open Go.RowKit Nib Tryz
theorem mDo_change (r d m : Nat) (p : Pg) (i j : Nat) (l : Bool) (t2 : ByteArray) (q : Nat) (f : Int → Value) (w : World) (h : RdAt w r d p) (hg : RgAt w m f) (hm : p.regs = .map (some m)) (hmr : m ≠ r) (hmd : m ≠ d) (hs : p.t.size ≤ 1000) (hs2 : t2.size ≤ 1000) (hij : i ≤ j) (hj : j ≤ p.t.size)
  (HD : qH 174 #[.int .u8 99, .string p.t, .agg #[.int .i64 i, .int .i64 j, .bool l], .int .i64 p.pl] (.tuple #[.string t2, .int .i64 q])) :
  Calls Tryz.prog 146 #[.pointer (some ⟨r, 0, none⟩), .int .u8 99, .agg #[.int .i64 i, .int .i64 j, .bool l]] w fun e w' => e = .returned (.int .i64 1) ∧ RdAt w' r d { p with t := t2, mode := 1, anchor := 0, pl := q } ∧ RgAt w' m (rgW f p.reg (tkn p.t i j l) l) ∧ Upd [d, m] w w' := by
 have HN : qH 172 #[.agg #[.int .i64 i, .int .i64 j, .bool l]] (.bool ((i : Int) == j && !l)) := fun ww => tNothing_any i j l ww
 generalize ((i : Int) == j && !l) = NB at *
 have HT : qH 173 #[.string p.t, .agg #[.int .i64 i, .int .i64 j, .bool l]] (.agg #[.string (tkn p.t i j l), .bool l]) := fun ww => mTaken_piece p.t i j l ww hs hij hj
 generalize tkn p.t i j l = X at *
 have HBc : Hid (∀ ww, RdAt ww r d p → Calls Tryz.prog 175 #[.pointer (some ⟨d, 0, none⟩), .string t2] ww fun e w' => e = .returned (.bool true) ∧ RdAt w' r d { p with t := t2 } ∧ Upd [d] ww w') := fun ww hh => mBecome r d p t2 ww hh hs2
 have hml := hg.lt
 have HWr : Hid (∀ ww, RgAt ww m f → Calls Tryz.prog 177 #[.map (some m), .int .u8 p.reg, .agg #[.string X, .bool l]] ww fun e w' => e = .returned (.tuple #[]) ∧ RgAt w' m (rgW f p.reg X l) ∧ Upd [m] ww w') := fun ww hh => rWrite_any m p.reg X l f ww hh
 generalize rgW f p.reg X l = f2 at *
 have HWs : qH 176 #[.int .u8 99] (.bool true) := fun ww => vWrites_any _ ww
 have HIa : Hid (∀ ww, RdAt ww r d { p with t := t2 } → Calls Tryz.prog 178 #[.pointer (some ⟨d, 0, none⟩), .int .i64 q] ww fun e w' => e = .returned (.int .i64 1) ∧ RdAt w' r d { p with t := t2, mode := 1, anchor := 0, pl := q } ∧ Upd [d] ww w') := fun ww hh => mInsertAt r d { p with t := t2 } q ww hh
 generalize hP6 : ({ p with t := t2, mode := 1, anchor := 0, pl := q } : Pg) = P6 at *
 generalize hP4 : ({ p with t := t2 } : Pg) = P4 at *
 have q4 : P4.regs = .map (some m) := by rw [← hP4]; exact hm
 have q4r : P4.reg = p.reg := by rw [← hP4]
 clear hP4 hP6
 have H := h
 obtain ⟨c0, c1, c2, c3, c4, c5, c6, c7, c8, c9, fz, lt⟩ := h.dk
 obtain ⟨b0, b1, b2, b3, b4, b5, bz, bl⟩ := h.bg
 clear c2 c3 c4 c5 c6 c7 c8 c9 b1 b2 b3 b4 b5 h
 have l1 : r < w.heap.size + 1 := by omega
 have l2 : d < w.heap.size + 1 := by omega
 have l3 : ¬ w.heap.size = d := by omega
 have l4 : ¬ w.heap.size = r := by omega
 cases NB
 all_goals
  go_enter func146, ntmps146
  go_wp2_with fail
  refine (HN.out _).mono ?_
  rintro e w1 ⟨rfl, h1⟩
  obtain ⟨hc1, hf1, hz1⟩ := qb h1
  try simp at hz1
  have d0 : w1.cell? ⟨d, 0, none⟩ = some (.string p.t) := by rw [hc1 _ _ qs]; go_simp
  have d1 : w1.cell? ⟨d, 1, none⟩ = some (.int .i64 p.pl) := by rw [hc1 _ _ qs]; go_simp
  have r0 : w1.cell? ⟨r, 0, none⟩ = some (.pointer (some ⟨d, 0, none⟩)) := by rw [hc1 _ _ qs]; go_simp
  have p0 : w1.cell? ⟨w.heap.size, 0, none⟩ = some (.int .i64 i) := by rw [hc1 _ _ qi]; simp
  have p1 : w1.cell? ⟨w.heap.size, 1, none⟩ = some (.int .i64 j) := by rw [hc1 _ _ qi]; simp
  have p2 : w1.cell? ⟨w.heap.size, 2, none⟩ = some (.bool l) := by rw [hc1 _ _ qi]; simp
  have k1 : r < w1.heap.size := by omega
  have k2 : d < w1.heap.size := by omega
  have k3 : w.heap.size < w1.heap.size := by omega
  clear hc1 hf1
  go_wp2_with fail
  go_region_held3 (fun ww => ww.cell? ⟨r, 0, none⟩ = some (.pointer (some ⟨d, 0, none⟩)) ∧ ww.cell? ⟨d, 0, none⟩ = some (.string p.t) ∧ ww.cell? ⟨w.heap.size, 0, none⟩ = some (.int .i64 i) ∧ ww.cell? ⟨w.heap.size, 1, none⟩ = some (.int .i64 j) ∧ ww.cell? ⟨w.heap.size, 2, none⟩ = some (.bool l)) (exact qK) (first | (go_at_call 173; with_reducible refine Calls.mono (HT.out (w1.alloc (.cells #[.string ⟨#[]⟩, .bool false] 99)).drew) ?_; rintro r2 w2 ⟨rfl, h2⟩; obtain ⟨hc2, hf2, hz2⟩ := qb h2; simp at hz2; have hn0 : w2.cell? ⟨w1.heap.size, 0, none⟩ = some (.string ⟨#[]⟩) := (hc2 (w1.heap.size) 0 qi).trans qi; have hn1 : w2.cell? ⟨w1.heap.size, 1, none⟩ = some (.bool false) := (hc2 (w1.heap.size) 1 qi).trans qi; have hq2 : ∀ o, w2.frozen? ⟨w1.heap.size, o, none⟩ = false := (fun o => (hf2 (w1.heap.size) o qi).trans qi); clear hc2 hf2) | (go_at_call 173; with_reducible refine Calls.mono (HT.out w1.drew) ?_; rintro r2 w2 ⟨rfl, h2⟩; have hz2 := h2.size; simp at hz2))
  rename_i hHeld
  have E : DoAt w (w2.alloc (.cells #[.string X, .bool l] 99)) r d m w.heap.size w2.heap.size p f i j l X := by
   exact qt33
  clear hHeld h1 h2 hz2 hg H d0 d1 r0 p0 p1 p2
  generalize (w2.alloc (.cells #[.string X, .bool l] 99)) = W at *
  generalize w2.heap.size = k at *
  rotate_left
  rename_i hHeld
  have E : DoAt w ((w2.setCell ⟨w1.heap.size, 0, none⟩ (.string X)).setCell ⟨w1.heap.size, 1, none⟩ (.bool l)) r d m w.heap.size w1.heap.size p f i j l X := by
   exact qt26
  clear hHeld h1 h2 hz2 hg H d0 d1 r0 p0 p1 p2
  generalize ((w2.setCell ⟨w1.heap.size, 0, none⟩ (.string X)).setCell ⟨w1.heap.size, 1, none⟩ (.bool l)) = W at *
  generalize w1.heap.size = k at *
  rotate_left
  all_goals
   obtain ⟨rd, rg, p0, p1, p2, x0, x1, lb, lk, up, lw⟩ := E
   have H := rd
   have r0 := rd.bg.c0
   have d0 := rd.dk.c0
   have d1 := rd.dk.c1
   have hlr := rd.bg.lt
   have hld := rd.dk.lt
   go_wp2_with fail
   go_region_held3 (fun ww => ww.cell? ⟨r, 0, none⟩ = some (.pointer (some ⟨d, 0, none⟩)) ∧ ww.cell? ⟨d, 0, none⟩ = some (.string p.t) ∧ ww.cell? ⟨d, 1, none⟩ = some (.int .i64 p.pl) ∧ ww.cell? ⟨w.heap.size, 0, none⟩ = some (.int .i64 i) ∧ ww.cell? ⟨w.heap.size, 1, none⟩ = some (.int .i64 j) ∧ ww.cell? ⟨w.heap.size, 2, none⟩ = some (.bool l)) (exact qK) ((go_at_call 174; refine Calls.mono (HD.out _) ?_; rintro r3 w3 ⟨rfl, h3⟩; have hz3 := h3.size; (try simp at hz3); (try have ⟨hl3_0, hk3_0⟩ := qL d w3.heap.size); (try have ⟨hl3_1, hk3_1⟩ := qL r w3.heap.size); (try have ⟨hl3_2, hk3_2⟩ := qL w.heap.size w3.heap.size)))
   have H3 := (rd.drew).below h3
   have G3 := (rg.drew).below h3
   have y0 := memLater h3 (memLater ((Below.refl _ _).drew) x0)
   have y1 := memLater h3 (memLater ((Below.refl _ _).drew) x1)
   have up3 : Below w.heap.size w w3 := by
    repeat exact qB
   clear rd rg x0 x1 up h3 H r0 d0 d1
   go_wp2_with fail
   refine Calls.mono (HBc.out _ H3) ?_
   rintro e4 w4 ⟨rfl, H4, u4⟩
   have G4 : RgAt w4 m f := G3.of_block (u4.block m G3.lt (by simp; exact hmd))
   have z0 := u4.was y0 qs
   have z1 := u4.was y1 qs
   go_wp2_with fail
   refine Calls.mono (HWs.out _) ?_
   rintro e5 w5 ⟨rfl, h5⟩
   have H5 := H4.below h5
   have G5 := G4.below h5
   have x0 := memLater h5 z0
   have x1 := memLater h5 z1
   have r0 := H5.bg.c0
   have r1 := H5.bg.c1
   have d4 := H5.dk.c4
   rw [q4] at d4
   rw [q4r] at r1
   go_wp2_with fail
   go_region_held3 (fun ww => ww.cell? ⟨r, 0, none⟩ = some (.pointer (some ⟨d, 0, none⟩)) ∧ ww.cell? ⟨r, 1, none⟩ = some (.int .u8 p.reg) ∧ ww.cell? ⟨d, 4, none⟩ = some (.map (some m)) ∧ ww.cell? ⟨k, 0, none⟩ = some (.string X) ∧ ww.cell? ⟨k, 1, none⟩ = some (.bool l)) (exact qK) ((go_at_call 177; with_reducible refine Calls.mono (HWr.out _ (RgAt.drew G5)) ?_; rintro e6 w6 ⟨rfl, G6, u6⟩; have a0 := u6.was (memLater ((Below.refl _ _).drew) r0) (by simp; exact Ne.symm hmr); have a1 := u6.was (memLater ((Below.refl _ _).drew) r1) (by simp; exact Ne.symm hmr); have a2 := u6.was (memLater ((Below.refl _ _).drew) d4) (by simp; exact Ne.symm hmd); have a3 := u6.was (memLater ((Below.refl _ _).drew) x0) qs; have a4 := u6.was (memLater ((Below.refl _ _).drew) x1) qs))
   have H6 : RdAt w6 r d P4 := (H5.drew).upd u6 (by simp; exact Ne.symm hmr) (by simp; exact Ne.symm hmd)
   have U6 : Upd [d, m] w w6 := by
    refine Upd.trans (Upd.drew (Upd.below (Upd.trans (Upd.of_below up3) (Upd.mono u4 qi)) h5)) (Upd.mono u6 qi)
   clear G5 r0 r1 d4 x0 x1 z0 z1 y0 y1 G4 G3 H3 H4 H5 u4 h5 u6 up3
   have r6 := H6.bg.c0
   go_wp2_with fail
   refine Calls.mono (HIa.out _ H6) ?_
   rintro e7 w7 ⟨rfl, H7, u7⟩
   have G7 : RgAt w7 m f2 := G6.of_block (u7.block m G6.lt (by simp; exact hmd))
   go_wp2
   go_ret
   exact ⟨rfl, H7, G7, U6.trans (u7.mono qi)⟩
def kBr : ByteArray := ⟨#[40, 41, 91, 93, 123, 125]⟩
theorem br_lt (i : Nat) (hi : i < kBr.size) : (kBr[i]'hi).toNat < 128 := by
 have hall : ∀ k : Fin 6, (kBr[k.1]'k.2).toNat < 128 := by decide
 exact hall ⟨i, hi⟩
theorem iter_below (w : World) (s : ByteArray) (p : Nat) : Below w.heap.size w (w.iter s p) := (Below.refl _ _).alloc (Nat.le_refl _) _
theorem idxRune_err (w : World) :
  qC 284 #[.string kBr, .int .i32 65533] w (.int .i64 (-1)) := by
 go_enter func284, ntmps284
 go_wp2
 go_loopg [5, 6] 6 (fun g _ _ wx => ∃ i : Nat, i + g = 6 ∧ wx = w.iter kBr i)
 case atStart => exact ⟨0, by omega, rfl⟩
 case round =>
  obtain ⟨i, hig, rfl⟩ := hrel
  cases gk with
  | zero =>
   obtain rfl : i = 6 := by omega
   have hnx := fun ty => run_next_end (P := Tryz.prog) w kBr 6 ty qd
   go_wp2
   go_ret
   exact ⟨rfl, iter_below _ _ _⟩
  | succ g =>
   have hi : i < kBr.size := by show i < 6; omega
   have ha : (kBr[i]'hi).toNat < 128 := br_lt i hi
   have hnx := fun ty => run_next_ascii (P := Tryz.prog) w kBr i ty hi ha
   have hne : (((kBr[i]'hi).toNat : Int) == 65533) = false := by simp; omega
   generalize (kBr[i]'hi).toNat = X at *
   go_wp2
   go_roundg g
   case measure => omega
   case rel => exact ⟨i + 1, by omega, rfl⟩
theorem validRune (r : Int) (w : World) (h : 0 ≤ r ∧ (r < 55296 ∨ (57344 ≤ r ∧ r ≤ 1114111))) :
  Calls Tryz.prog 297 #[.int .i32 r] w fun e w' => e = .returned (.bool true) ∧ w' = w := by
 by_cases h1 : r < 55296
 ·have h0 : 0 ≤ r := h.1
  clear h
  go_enter func297, ntmps297
  go_wp2
  all_goals
   go_ret
   exact ⟨rfl, rfl⟩
 ·have h2 : 57343 < r := by omega
  have h3 : r ≤ 1114111 := by omega
  have h0 : 0 ≤ r := h.1
  clear h
  go_enter func297, ntmps297
  go_wp2
  all_goals
   go_ret
   exact ⟨rfl, rfl⟩
theorem firstIdx_none (s : ByteArray) (c : UInt8) (h : ∀ i, (hi : i < s.size) → s[i]'hi ≠ c) : firstIdx s c = -1 := by
 have hf : (List.range s.size).find? (fun i => s[i]! == c) = none := by
  rw [List.find?_eq_none]
  intro i hi
  have hi' : i < s.size := List.mem_range.1 hi
  have := h i hi'
  rw [getElem!_pos s i hi']
  simpa using this
 unfold firstIdx
 rw [hf]
theorem slice_from (S : ByteArray) (L : Nat) (h : L ≤ S.size) (ww : World) : (Instr.slice 9 (.string S) (some (.int .i64 (L : Int))) none none).run Tryz.prog ww = .ok (.string (S.extract L S.size)) ww := by
 have h0 : (0 : Int) ≤ (L : Int) := by omega
 have h1 : (L : Int) ≤ (S.size : Int) := by omega
 simp [Instr.slice, run_underlying underlying9, Instr.sliceBounds, go_sem, h0, h1]
theorem qt27 {P : Prop} (h : P := by
  obtain ⟨rfl, rfl, rfl, rfl⟩ := hrel
  go_wp2_with fail
  go_step3
  go_wp2_with fail
  go_region_held3 (fun ww => ∃ x, Hid (ww.os = x)) ((exact ⟨_, rfl⟩)) (fail)
  all_goals
   go_wp2_with fail
   go_region_held3 (fun ww => ∃ x, Hid (ww.os = x)) ((exact ⟨_, rfl⟩)) ((go_at_call 229; refine Calls.mono (HIX.out _ _) ?_; rintro e2 w2 ⟨rfl, rfl⟩))
  all_goals go_wp2
  all_goals rw [Exit.noGoto_ret]
  all_goals simp only [Exit.inBlock, Exit.then]
  all_goals rw [Exit.noGoto_ret]
  all_goals simp only [Exit.inBlock]
  all_goals
   first
    | (refine bodyPost_ret (v := .int .i64 (-1)) (by simp [results, results284, go_sem]) rfl ⟨rfl, ?_⟩ <;> exact qB)
 ) : P := h
theorem idxRune_high (r : Nat) (w : World) (h : 128 ≤ r) (hv : r ≤ 1114111 ∧ (r < 55296 ∨ 57344 ≤ r)) (hne : r ≠ 65533) :
  qC 284 #[.string kBr, .int .i32 r] w (.int .i64 (-1)) := by
 obtain ⟨l, c, he, hl1, hl3, hc⟩ := enc_last r h hv
 have hV : Hid (∀ ww, Calls Tryz.prog 297 #[.int .i32 (r : Int)] ww fun e w' => e = .returned (.bool true) ∧ w' = ww) := fun ww => validRune r ww qo
 have hcv : ∀ ww, (convert 21 9 (.int .i32 (r : Int))).run Tryz.prog ww = .ok (.string (Utf8.encode (r : Int))) ww := fun ww => by
  simp [convert, run_underlying underlying21, run_underlying underlying9]
  rfl
 generalize Utf8.encode (r : Int) = rs at *
 have hsz : rs.size = l.length + 1 := by
  rw [size_list, he]; simp
 have hlast : ∀ hk : l.length < rs.size, 128 ≤ (rs[l.length]'hk).toNat := fun hk => last_list he hc l.length hk hsz.symm
 have h1 : ¬ ((r : Int) < 128) := by omega
 have h0 : (0 : Int) ≤ (r : Int) := by omega
 have h2 : ((r : Int) == 65533) = false := by simp; omega
 clear he hc h hv hne
 generalize l.length = L at *
 have hL : L < rs.size := by omega
 have hla := hlast hL
 have HIX : Hid (∀ k ww, Calls Tryz.prog 229 #[.string (kBr.extract k kBr.size), .int .u8 ((rs[L]'hL).toNat : Int)] ww fun e w' => e = .returned (.int .i64 (-1)) ∧ w' = ww) := by
  intro k ww
  have := indexByte_any (kBr.extract k kBr.size) ((rs[L]'hL).toNat : Int) ww
  rw [firstIdx_none] at this
  ·exact this
  ·intro i hi hq
   have hi2 : k + i < kBr.size := by
    have := hi
    rw [ByteArray.size_extract] at this
    have h6 : kBr.size = 6 := rfl
    omega
   have e : (kBr.extract k kBr.size)[i]'hi = kBr[k + i]'hi2 := ByteArray.getElem_extract ..
   rw [e] at hq
   have := br_lt (k + i) hi2
   rw [hq] at this
   simp at this
   omega
 have hlt : ∀ k, (hk : k < kBr.size) → (kBr[k]'hk).toNat < 128 := br_lt
 have h6 : kBr.size = 6 := rfl
 generalize kBr = S at *
 rcases (by omega : L = 1 ∨ L = 2 ∨ L = 3) with rfl | rfl | rfl
 ·have hs1 : 1 < S.size := by omega
  have hx : ¬ (S[1]'hs1).toNat = (rs[1]'hL).toNat := by have := hlt 1 hs1; omega
  have hx' : (((S[1]'hs1).toNat : Int) == ((rs[1]'hL).toNat : Int)) = false := by simp; omega
  have hi1 : (1 : Int) < (S.size : Int) := by omega
  have hi2 : (2 : Int) ≤ (S.size : Int) := by omega
  have hi3 : (1 : Int) < (rs.size : Int) := by omega
  have hi4 : (rs.size : Int) - 1 = 1 := by omega
  have hwr : IntKind.i64.wrap 2 = 2 := by rw [IntKind.wrap_i64]; omega
  have hsl : ∀ ww, (Instr.slice 9 (.string S) (some (.int .i64 2)) none none).run Tryz.prog ww = .ok (.string (S.extract 2 S.size)) ww := slice_from S 2 qo
  clear hlast hl1 hl3 hlt hsz h6
  go_enter func284, ntmps284
  go_wp2_with fail
  refine Calls.mono (hV.out _) ?_
  rintro e w1 ⟨rfl, rfl⟩
  go_wp2_with fail
  go_step3
  go_wp2_with fail
  go_loopg [9, 10] 1 (fun g i f wx => g = 1 ∧ i = .int .i64 1 ∧ f = .int .i64 0 ∧ wx = w1)
  case atStart => exact ⟨rfl, rfl, rfl, rfl⟩
  case round =>
   exact qt27
 ·have hs2 : 2 < S.size := by omega
  have hx : ¬ (S[2]'hs2).toNat = (rs[2]'hL).toNat := by have := hlt 2 hs2; omega
  have hx' : (((S[2]'hs2).toNat : Int) == ((rs[2]'hL).toNat : Int)) = false := by simp; omega
  have hi1 : (2 : Int) < (S.size : Int) := by omega
  have hi2 : (3 : Int) ≤ (S.size : Int) := by omega
  have hi3 : (2 : Int) < (rs.size : Int) := by omega
  have hi4 : (rs.size : Int) - 1 = 2 := by omega
  have hwr : IntKind.i64.wrap 3 = 3 := by rw [IntKind.wrap_i64]; omega
  have hsl : ∀ ww, (Instr.slice 9 (.string S) (some (.int .i64 3)) none none).run Tryz.prog ww = .ok (.string (S.extract 3 S.size)) ww := slice_from S 3 qo
  clear hlast hl1 hl3 hlt hsz h6
  go_enter func284, ntmps284
  go_wp2_with fail
  refine Calls.mono (hV.out _) ?_
  rintro e w1 ⟨rfl, rfl⟩
  go_wp2_with fail
  go_step3
  go_wp2_with fail
  go_loopg [9, 10] 1 (fun g i f wx => g = 1 ∧ i = .int .i64 2 ∧ f = .int .i64 0 ∧ wx = w1)
  case atStart => exact ⟨rfl, rfl, rfl, rfl⟩
  case round =>
   exact qt27
 ·have hs3 : 3 < S.size := by omega
  have hx : ¬ (S[3]'hs3).toNat = (rs[3]'hL).toNat := by have := hlt 3 hs3; omega
  have hx' : (((S[3]'hs3).toNat : Int) == ((rs[3]'hL).toNat : Int)) = false := by simp; omega
  have hi1 : (3 : Int) < (S.size : Int) := by omega
  have hi2 : (4 : Int) ≤ (S.size : Int) := by omega
  have hi3 : (3 : Int) < (rs.size : Int) := by omega
  have hi4 : (rs.size : Int) - 1 = 3 := by omega
  have hwr : IntKind.i64.wrap 4 = 4 := by rw [IntKind.wrap_i64]; omega
  have hsl : ∀ ww, (Instr.slice 9 (.string S) (some (.int .i64 4)) none none).run Tryz.prog ww = .ok (.string (S.extract 4 S.size)) ww := slice_from S 4 qo
  clear hlast hl1 hl3 hlt hsz h6
  go_enter func284, ntmps284
  go_wp2_with fail
  refine Calls.mono (hV.out _) ?_
  rintro e w1 ⟨rfl, rfl⟩
  go_wp2_with fail
  go_step3
  go_wp2_with fail
  go_loopg [9, 10] 1 (fun g i f wx => g = 1 ∧ i = .int .i64 3 ∧ f = .int .i64 0 ∧ wx = w1)
  case atStart => exact ⟨rfl, rfl, rfl, rfl⟩
  case round =>
   exact qt27
