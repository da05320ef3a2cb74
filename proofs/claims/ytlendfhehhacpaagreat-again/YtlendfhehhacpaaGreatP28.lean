/- A part. -/
import Derived.Test.YtlendfhehhacpaaGreatP23
import Derived.Test.YtlendfhehhacpaaGreatP25
set_option linter.unusedVariables false
set_option linter.unusedSimpArgs false
set_option maxRecDepth 100000
set_option maxHeartbeats 8000000
namespace Go.Proofs.YtlendfhehhacpaaGreat
open Go.RowKit Nib Tryz
theorem tPartner_any (s : ByteArray) (p : Nat) (w : World) (hs : s.size ≤ 1000) (hp : p < s.size) (hb : prt (bt s p) ≠ 0) :
  qC 255 #[.string s, .int .i64 p] w (.tuple #[.int .i64 (mtI (mtch s p)), .bool (mtB (mtch s p))]) := by
 have HS : qH 287 #[.string s, .int .u8 (((s[p]'hp).toNat : Nat) : Int), .int .i64 p, .int .i64 0] (.tuple #[.int .i64 (mtI (mtch s p)), .bool (mtB (mtch s p))]) := by
  intro ww
  rw [← bt_in hp]
  have hcase : bt s p = 40 ∨ bt s p = 91 ∨ bt s p = 123 ∨ bt s p = 41 ∨ bt s p = 93 ∨ bt s p = 125 := by
   unfold prt at hb
   by_cases h1 : bt s p = 40
   ·exact Or.inl h1
   by_cases h2 : bt s p = 91
   ·exact Or.inr (Or.inl h2)
   by_cases h3 : bt s p = 123
   ·exact Or.inr (Or.inr (Or.inl h3))
   by_cases h4 : bt s p = 41
   ·exact Or.inr (Or.inr (Or.inr (Or.inl h4)))
   by_cases h5 : bt s p = 93
   ·exact Or.inr (Or.inr (Or.inr (Or.inr (Or.inl h5))))
   by_cases h6 : bt s p = 125
   ·exact Or.inr (Or.inr (Or.inr (Or.inr (Or.inr h6))))
   ·rw [if_neg h1, if_neg h2, if_neg h3, if_neg h4, if_neg h5, if_neg h6] at hb
    exact absurd rfl hb
  rcases hcase with h | h | h | h | h | h
  ·have e : mtch s p = mtU s 40 41 (s.size - p) ((0 : Nat) : Int) p := by unfold mtch; rw [h]; rfl
   rw [e, h]; exact tSeek_40 s p 0 ww hs hp qo (Or.inr h)
  ·have e : mtch s p = mtU s 91 93 (s.size - p) ((0 : Nat) : Int) p := by unfold mtch; rw [h]; rfl
   rw [e, h]; exact tSeek_91 s p 0 ww hs hp qo (Or.inr h)
  ·have e : mtch s p = mtU s 123 125 (s.size - p) ((0 : Nat) : Int) p := by unfold mtch; rw [h]; rfl
   rw [e, h]; exact tSeek_123 s p 0 ww hs hp qo (Or.inr h)
  ·have e : mtch s p = mtD s 41 40 ((0 : Nat) : Int) (p + 1) := by unfold mtch; rw [h]; rfl
   rw [e, h]; exact tSeek_41 s p 0 ww hs hp qo (Or.inr h)
  ·have e : mtch s p = mtD s 93 91 ((0 : Nat) : Int) (p + 1) := by unfold mtch; rw [h]; rfl
   rw [e, h]; exact tSeek_93 s p 0 ww hs hp qo (Or.inr h)
  ·have e : mtch s p = mtD s 125 123 ((0 : Nat) : Int) (p + 1) := by unfold mtch; rw [h]; rfl
   rw [e, h]; exact tSeek_125 s p 0 ww hs hp qo (Or.inr h)
 generalize mtch s p = M at *
 generalize mtI M = X at *
 generalize mtB M = Z at *
 clear hb
 go_enter func255, ntmps255
 go_wp2_with fail
 refine (HS.out _).mono ?_
 rintro e w1 ⟨rfl, h1⟩
 obtain ⟨hc1, hf1, hz1⟩ := qb h1
 try simp at hz1
 go_wp2
 all_goals
  first
   | (exact qV (.tuple #[.int .i64 X, .bool Z]) (by simp [results, results255, go_sem]) rfl)
theorem mDo_plain (v : Int) (r d m : Nat) (p : Pg) (i j : Nat) (l : Bool) (t2 : ByteArray) (q : Nat) (f : Int → Value) (w : World) (h : RdAt w r d p) (hg : RgAt w m f) (hm : p.regs = .map (some m)) (hmr : m ≠ r) (hmd : m ≠ d) (hs : p.t.size ≤ 1000) (hs2 : t2.size ≤ 1000) (hij : i ≤ j) (hj : j ≤ p.t.size) (hne : ¬ (i = j ∧ l = false)) (hq : q ≤ t2.size) (hv : v = 62 ∨ v = 60 ∨ v = 117 ∨ v = 85)
  (HD : qH 174 #[.int .u8 v, .string p.t, .agg #[.int .i64 i, .int .i64 j, .bool l], .int .i64 p.pl] (.tuple #[.string t2, .int .i64 q])) :
  Calls Tryz.prog 146 #[.pointer (some ⟨r, 0, none⟩), .int .u8 v, .agg #[.int .i64 i, .int .i64 j, .bool l]] w fun e w' => e = .returned (.int .i64 2) ∧ RdAt w' r d { p with t := t2, mode := 0, anchor := 0, pl := clm t2 q } ∧ RgAt w' m f ∧ Upd [d, m] w w' := by
 have HN : qH 172 #[.agg #[.int .i64 i, .int .i64 j, .bool l]] (.bool false) := by
  exact qt57
 have HT : qH 173 #[.string p.t, .agg #[.int .i64 i, .int .i64 j, .bool l]] (.agg #[.string (tkn p.t i j l), .bool l]) := fun ww => mTaken_piece p.t i j l ww hs hij hj
 generalize tkn p.t i j l = X at *
 have HBc : Hid (∀ ww, RdAt ww r d p → Calls Tryz.prog 175 #[.pointer (some ⟨d, 0, none⟩), .string t2] ww fun e w' => e = .returned (.bool true) ∧ RdAt w' r d { p with t := t2 } ∧ Upd [d] ww w') := fun ww hh => mBecome r d p t2 ww hh hs2
 have hml := hg.lt
 have HWs : qH 176 #[.int .u8 v] (.bool false) := fun ww => by
  rcases hv with hv | hv | hv | hv <;> subst hv <;> exact vWrites_any _ ww
 have HTN : Hid (∀ ww, RdAt ww r d { p with t := t2 } → Calls Tryz.prog 136 #[.pointer (some ⟨d, 0, none⟩)] ww fun e w' => e = .returned (.tuple #[]) ∧ RdAt w' r d { p with t := t2, mode := 0, anchor := 0 } ∧ Upd [d] ww w') := fun ww hh => mToNormal r d { p with t := t2 } ww hh
 have HMv : Hid (∀ ww, RdAt ww r d { p with t := t2, mode := 0, anchor := 0 } → Calls Tryz.prog 179 #[.pointer (some ⟨d, 0, none⟩), .int .i64 q] ww fun e w' => e = .returned (.tuple #[]) ∧ RdAt w' r d { p with t := t2, mode := 0, anchor := 0, pl := clm t2 q } ∧ Upd [d] ww w') := fun ww hh => mMoveTo r d { p with t := t2, mode := 0, anchor := 0 } q q ww hh hs2 rfl hq
 have v99 : (v == 99) = false := by simp; omega
 have v121 : (v == 121) = false := by simp; omega
 have v99' : (v != 99) = true := by simp; omega
 generalize hP6 : ({ p with t := t2, mode := 0, anchor := 0, pl := clm t2 q } : Pg) = P6 at *
 generalize hP5 : ({ p with t := t2, mode := 0, anchor := 0 } : Pg) = P5 at *
 generalize hP4 : ({ p with t := t2 } : Pg) = P4 at *
 clear hP4 hP5 hP6
 have H := h
 obtain ⟨c0, c1, c2, c3, c4, c5, c6, c7, c8, c9, fz, lt⟩ := h.dk
 obtain ⟨b0, b1, b2, b3, b4, b5, bz, bl⟩ := h.bg
 clear c2 c3 c4 c5 c6 c7 c8 c9 b1 b2 b3 b4 b5 h
 have l1 : r < w.heap.size + 1 := by omega
 have l2 : d < w.heap.size + 1 := by omega
 have l3 : ¬ w.heap.size = d := by omega
 have l4 : ¬ w.heap.size = r := by omega
 go_enter func146, ntmps146
 go_wp2_with fail
 refine (HN.out _).mono ?_
 rintro e w1 ⟨rfl, h1⟩
 obtain ⟨hc1, hf1, hz1⟩ := qb h1
 try simp at hz1
 have d0 : w1.cell? ⟨d, 0, none⟩ = some (.string p.t) := by rw [hc1 _ _ qs]; go_simp
 have d1 : w1.cell? ⟨d, 1, none⟩ = some (.int .i64 p.pl) := by rw [hc1 _ _ qs]; go_simp
 have r0 : w1.cell? ⟨r, 0, none⟩ = some (.pointer (some ⟨d, 0, none⟩)) := by rw [hc1 _ _ qs]; go_simp
 have p0 : w1.cell? ⟨w.heap.size, 0, none⟩ = some (.int .i64 i) := by rw [hc1 _ _ qi]; simp
 have p1 : w1.cell? ⟨w.heap.size, 1, none⟩ = some (.int .i64 j) := by rw [hc1 _ _ qi]; simp
 have p2 : w1.cell? ⟨w.heap.size, 2, none⟩ = some (.bool l) := by rw [hc1 _ _ qi]; simp
 have k1 : r < w1.heap.size := by omega
 have k2 : d < w1.heap.size := by omega
 have k3 : w.heap.size < w1.heap.size := by omega
 clear hc1 hf1
 go_wp2_with fail
 go_region_held3 (fun ww => ww.cell? ⟨r, 0, none⟩ = some (.pointer (some ⟨d, 0, none⟩)) ∧ ww.cell? ⟨d, 0, none⟩ = some (.string p.t) ∧ ww.cell? ⟨w.heap.size, 0, none⟩ = some (.int .i64 i) ∧ ww.cell? ⟨w.heap.size, 1, none⟩ = some (.int .i64 j) ∧ ww.cell? ⟨w.heap.size, 2, none⟩ = some (.bool l)) (exact qK) (first | (go_at_call 173; with_reducible refine Calls.mono (HT.out (w1.alloc (.cells #[.string ⟨#[]⟩, .bool false] 99)).drew) ?_; rintro r2 w2 ⟨rfl, h2⟩; obtain ⟨hc2, hf2, hz2⟩ := qb h2; simp at hz2; have hn0 : w2.cell? ⟨w1.heap.size, 0, none⟩ = some (.string ⟨#[]⟩) := (hc2 (w1.heap.size) 0 qi).trans qi; have hn1 : w2.cell? ⟨w1.heap.size, 1, none⟩ = some (.bool false) := (hc2 (w1.heap.size) 1 qi).trans qi; have hq2 : ∀ o, w2.frozen? ⟨w1.heap.size, o, none⟩ = false := (fun o => (hf2 (w1.heap.size) o qi).trans qi); clear hc2 hf2) | (go_at_call 173; with_reducible refine Calls.mono (HT.out w1.drew) ?_; rintro r2 w2 ⟨rfl, h2⟩; have hz2 := h2.size; simp at hz2))
 rename_i hHeld
 have E : DoAt w (w2.alloc (.cells #[.string X, .bool l] 99)) r d m w.heap.size w2.heap.size p f i j l X := by
  exact qt31
 clear hHeld h1 h2 hz2 hg H d0 d1 r0 p0 p1 p2
 generalize (w2.alloc (.cells #[.string X, .bool l] 99)) = W at *
 generalize w2.heap.size = k at *
 rotate_left
 rename_i hHeld
 have E : DoAt w ((w2.setCell ⟨w1.heap.size, 0, none⟩ (.string X)).setCell ⟨w1.heap.size, 1, none⟩ (.bool l)) r d m w.heap.size w1.heap.size p f i j l X := by
  exact qt26
 clear hHeld h1 h2 hz2 hg H d0 d1 r0 p0 p1 p2
 generalize ((w2.setCell ⟨w1.heap.size, 0, none⟩ (.string X)).setCell ⟨w1.heap.size, 1, none⟩ (.bool l)) = W at *
 generalize w1.heap.size = k at *
 rotate_left
 all_goals
  obtain ⟨rd, rg, p0, p1, p2, x0, x1, lb, lk, up, lw⟩ := E
  have H := rd
  have r0 := rd.bg.c0
  have d0 := rd.dk.c0
  have d1 := rd.dk.c1
  have hlr := rd.bg.lt
  have hld := rd.dk.lt
  go_wp2_with fail
  go_region_held3 (fun ww => ww.cell? ⟨r, 0, none⟩ = some (.pointer (some ⟨d, 0, none⟩)) ∧ ww.cell? ⟨d, 0, none⟩ = some (.string p.t) ∧ ww.cell? ⟨d, 1, none⟩ = some (.int .i64 p.pl) ∧ ww.cell? ⟨w.heap.size, 0, none⟩ = some (.int .i64 i) ∧ ww.cell? ⟨w.heap.size, 1, none⟩ = some (.int .i64 j) ∧ ww.cell? ⟨w.heap.size, 2, none⟩ = some (.bool l)) (exact qK) ((go_at_call 174; refine Calls.mono (HD.out _) ?_; rintro r3 w3 ⟨rfl, h3⟩; have hz3 := h3.size; (try simp at hz3); (try have ⟨hl3_0, hk3_0⟩ := qL d w3.heap.size); (try have ⟨hl3_1, hk3_1⟩ := qL r w3.heap.size); (try have ⟨hl3_2, hk3_2⟩ := qL w.heap.size w3.heap.size)))
  have H3 := (rd.drew).below h3
  have G3 := (rg.drew).below h3
  have y0 := memLater h3 (memLater ((Below.refl _ _).drew) x0)
  have y1 := memLater h3 (memLater ((Below.refl _ _).drew) x1)
  have up3 : Below w.heap.size w w3 := by
   repeat exact qB
  clear rd rg x0 x1 up h3 H r0 d0 d1
  go_wp2_with fail
  refine Calls.mono (HBc.out _ H3) ?_
  rintro e4 w4 ⟨rfl, H4, u4⟩
  have G4 : RgAt w4 m f := G3.of_block (u4.block m G3.lt (by simp; exact hmd))
  have z0 := u4.was y0 qs
  have z1 := u4.was y1 qs
  go_wp2_with fail
  refine Calls.mono (HWs.out _) ?_
  rintro e5 w5 ⟨rfl, h5⟩
  have H5 := H4.below h5
  have G5 := G4.below h5
  have U6 : Upd [d, m] w w5 := Upd.below (Upd.trans (Upd.of_below up3) (Upd.mono u4 qi)) h5
  have r0 := H5.bg.c0
  clear z0 z1 y0 y1 G4 G3 H3 H4 u4 h5 up3
  go_wp2_with fail
  refine Calls.mono (HTN.out _ H5) ?_
  rintro e7 w7 ⟨rfl, H7, u7⟩
  have G7 : RgAt w7 m f := G5.of_block (u7.block m G5.lt (by simp; exact hmd))
  have r7 := H7.bg.c0
  go_wp2_with fail
  refine Calls.mono (HMv.out _ H7) ?_
  rintro e8 w8 ⟨rfl, H8, u8⟩
  have G8 : RgAt w8 m f := G7.of_block (u8.block m G7.lt (by simp; exact hmd))
  have U8 : Upd [d, m] w w8 := (U6.trans (u7.mono qi)).trans (u8.mono qi)
  clear u7 u8 U6 H7 H5 G7 G5
  go_wp2
  go_ret
  exact ⟨rfl, H8, G8, U8⟩
theorem lastIB_big (s : ByteArray) (c : Int) (w : World) (hs : s.size ≤ 1000000) :
  Calls Tryz.prog 268 #[.string s, .int .u8 c] w fun e w' => e = .returned (.int .i64 (((Nib.dn (fun i => bt s i != c) s.size : Nat) : Int) - 1)) ∧ w' = w := by
 exact qt22
theorem lastIndexByte_big (s : ByteArray) (c : Int) (w : World) (hs : s.size ≤ 1000000) :
  Calls Tryz.prog 228 #[.string s, .int .u8 c] w fun e w' => e = .returned (.int .i64 (((Nib.dn (fun i => bt s i != c) s.size : Nat) : Int) - 1)) ∧ w' = w := by
 go_enter func228, ntmps228
 go_wp2_with fail
 refine (lastIB_big s c w hs).mono ?_
 rintro e w' ⟨rfl, rfl⟩
 go_wp2
 go_ret
 exact ⟨rfl, rfl⟩
theorem tLine_big (s : ByteArray) (p : Int) (k : Nat) (w : World) (hs : s.size ≤ 1000000) (e : p = k) (hk : k ≤ s.size) :
  qC 195 #[.string s, .int .i64 p] w (.agg #[.int .i64 (beg s k), .int .i64 (fin s k)]) := by
 subst e
 have h1 : (s.extract 0 k).size = k := by rw [ByteArray.size_extract]; omega
 have h2 : (s.extract k s.size).size = s.size - k := by rw [ByteArray.size_extract]; omega
 have HB : Hid (((Nib.dn (fun i => bt (s.extract 0 k) i != 10) (s.extract 0 k).size : Nat) : Int) = beg s k) := by rw [Hid, h1, dn_cut hk]
 have HF : Hid (firstIdx (s.extract k s.size) (10 : Int).toNat.toUInt8 = if fin s k < s.size then ((fin s k : Nat) : Int) - k else -1) := by
  have := fin_ge s k
  rw [Hid, first_up _ 10 qo qo, h2, up_cut hk]
  by_cases h : fin s k < s.size
  ·rw [if_pos h, if_pos qo]; omega
  ·rw [if_neg h, if_neg qo]
 have hbl := beg_le s k
 have hfl := fin_le hk
 have hfg := fin_ge s k
 have HE : ¬ fin s k < s.size → fin s k = s.size := by omega
 generalize beg s k = B at *
 generalize fin s k = F at *
 go_enter func195, ntmps195
 go_wp2_with fail
 refine (lastIndexByte_big (s.extract 0 k) 10 _ qo).mono ?_
 exact qt102
theorem tLast_big (a b : Int) (w : World) (h : -5000000 ≤ b ∧ b ≤ 5000000) :
  qC 202 #[.agg #[.int .i64 (a), .int .i64 (b)]] w (.int .i64 (max a (b - 1))) := by
 exact qt104
theorem tIndent_big (s : ByteArray) (a b : Int) (k : Nat) (w : World) (hs : s.size ≤ 1000000) (hk : k ≤ s.size) (ea : a = beg s k) (eb : b = fin s k) :
  qC 187 #[.string s, .agg #[.int .i64 (a), .int .i64 (b)]] w (.agg #[.int .i64 (beg s k), .int .i64 (ind s k)]) := by
 exact qt98
theorem tFirst_big (s : ByteArray) (a b : Int) (k : Nat) (w : World) (hs : s.size ≤ 1000000) (hk : k ≤ s.size) (ea : a = beg s k) (eb : b = fin s k) :
  qC 243 #[.string s, .agg #[.int .i64 (a), .int .i64 (b)]] w (.int .i64 (frs s k)) := by
 subst ea eb
 have hf := fin_le hk
 have HF := frs_min s k hk
 rw [lst_max] at HF
 have HI : qH 187 #[.string s, .agg #[.int .i64 (beg s k), .int .i64 (fin s k)]] (.agg #[.int .i64 (beg s k), .int .i64 (ind s k)]) := fun ww => tIndent_big s _ _ k ww hs hk rfl rfl
 have HL : qH 202 #[.agg #[.int .i64 (beg s k), .int .i64 (fin s k)]] (.int .i64 (max ((beg s k : Nat) : Int) (((fin s k : Nat) : Int) - 1))) := fun ww => tLast_big _ _ ww qo
 exact qt101
