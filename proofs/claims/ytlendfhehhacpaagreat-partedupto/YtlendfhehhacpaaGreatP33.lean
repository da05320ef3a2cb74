/- A part. -/
import Derived.Test.YtlendfhehhacpaaGreatP27
import Derived.Test.YtlendfhehhacpaaGreatP25
import Derived.Laws.BytesString
set_option linter.unusedVariables false
set_option linter.unusedSimpArgs false
set_option maxRecDepth 100000
set_option maxHeartbeats 8000000
namespace Go.Proofs.YtlendfhehhacpaaGreat
open Go.RowKit
theorem mDo_plain (v : Int) (r d m : Nat) (p : Pg) (i j : Nat) (l : Bool) (t2 : ByteArray) (q : Nat) (f : Int → Value) (w : World) (h : RdAt w r d p) (hg : RgAt w m f) (hm : p.regs = .map (some m)) (hmr : m ≠ r) (hmd : m ≠ d) (hs : p.t.size ≤ 1000) (hs2 : t2.size ≤ 1000) (hij : i ≤ j) (hj : j ≤ p.t.size) (hne : ¬ (i = j ∧ l = false)) (hq : q ≤ t2.size) (hv : v = 62 ∨ v = 60 ∨ v = 117 ∨ v = 85)
  (HD : qH 174 #[.int .u8 v, .string p.t, .agg #[.int .i64 i, .int .i64 j, .bool l], .int .i64 p.pl] (.tuple #[.string t2, .int .i64 q])) :
  Calls Tryz.prog 146 #[.pointer (some ⟨r, 0, none⟩), .int .u8 v, .agg #[.int .i64 i, .int .i64 j, .bool l]] w fun e w' => e = .returned (.int .i64 2) ∧ RdAt w' r d { p with t := t2, mode := 0, anchor := 0, pl := Nib.clm t2 q } ∧ RgAt w' m f ∧ Upd [d, m] w w' := by
 have HN : qH 172 #[.agg #[.int .i64 i, .int .i64 j, .bool l]] (.bool false) := by
  exact qt59
 have HT : qH 173 #[.string p.t, .agg #[.int .i64 i, .int .i64 j, .bool l]] (.agg #[.string (tkn p.t i j l), .bool l]) := fun ww => mTaken_piece p.t i j l ww hs hij hj
 generalize tkn p.t i j l = X at *
 have HBc : Hid (∀ ww, RdAt ww r d p → Calls Tryz.prog 175 #[.pointer (some ⟨d, 0, none⟩), .string t2] ww fun e w' => e = .returned (.bool true) ∧ RdAt w' r d { p with t := t2 } ∧ Upd [d] ww w') := fun ww hh => mBecome r d p t2 ww hh hs2
 have hml := hg.lt
 have HWs : qH 176 #[.int .u8 v] (.bool false) := fun ww => by
  rcases hv with hv | hv | hv | hv <;> subst hv <;> exact vWrites_any _ ww
 have HTN : Hid (∀ ww, RdAt ww r d { p with t := t2 } → Calls Tryz.prog 136 #[.pointer (some ⟨d, 0, none⟩)] ww fun e w' => e = .returned (.tuple #[]) ∧ RdAt w' r d { p with t := t2, mode := 0, anchor := 0 } ∧ Upd [d] ww w') := fun ww hh => mToNormal r d { p with t := t2 } ww hh
 have HMv : Hid (∀ ww, RdAt ww r d { p with t := t2, mode := 0, anchor := 0 } → Calls Tryz.prog 179 #[.pointer (some ⟨d, 0, none⟩), .int .i64 q] ww fun e w' => e = .returned (.tuple #[]) ∧ RdAt w' r d { p with t := t2, mode := 0, anchor := 0, pl := Nib.clm t2 q } ∧ Upd [d] ww w') := fun ww hh => mMoveTo r d { p with t := t2, mode := 0, anchor := 0 } q q ww hh hs2 rfl hq
 have v99 : (v == 99) = false := by simp; omega
 have v121 : (v == 121) = false := by simp; omega
 have v99' : (v != 99) = true := by simp; omega
 generalize hP6 : ({ p with t := t2, mode := 0, anchor := 0, pl := Nib.clm t2 q } : Pg) = P6 at *
 generalize hP5 : ({ p with t := t2, mode := 0, anchor := 0 } : Pg) = P5 at *
 generalize hP4 : ({ p with t := t2 } : Pg) = P4 at *
 clear hP4 hP5 hP6
 have H := h
 obtain ⟨c0, c1, c2, c3, c4, c5, c6, c7, c8, c9, fz, lt⟩ := h.dk
 obtain ⟨b0, b1, b2, b3, b4, b5, bz, bl⟩ := h.bg
 clear c2 c3 c4 c5 c6 c7 c8 c9 b1 b2 b3 b4 b5 h
 have l1 : r < w.heap.size + 1 := by omega
 have l2 : d < w.heap.size + 1 := by omega
 have l3 : ¬ w.heap.size = d := by omega
 have l4 : ¬ w.heap.size = r := by omega
 go_enter Tryz.func146, Tryz.ntmps146
 go_wp2_with fail
 refine (HN.out _).mono ?_
 rintro e w1 ⟨rfl, h1⟩
 obtain ⟨hc1, hf1, hz1⟩ := qb h1
 try simp at hz1
 have d0 : w1.cell? ⟨d, 0, none⟩ = some (.string p.t) := by rw [hc1 _ _ qs]; go_simp
 have d1 : w1.cell? ⟨d, 1, none⟩ = some (.int .i64 p.pl) := by rw [hc1 _ _ qs]; go_simp
 have r0 : w1.cell? ⟨r, 0, none⟩ = some (.pointer (some ⟨d, 0, none⟩)) := by rw [hc1 _ _ qs]; go_simp
 have p0 : w1.cell? ⟨w.heap.size, 0, none⟩ = some (.int .i64 i) := by rw [hc1 _ _ qi]; simp
 have p1 : w1.cell? ⟨w.heap.size, 1, none⟩ = some (.int .i64 j) := by rw [hc1 _ _ qi]; simp
 have p2 : w1.cell? ⟨w.heap.size, 2, none⟩ = some (.bool l) := by rw [hc1 _ _ qi]; simp
 have k1 : r < w1.heap.size := by omega
 have k2 : d < w1.heap.size := by omega
 have k3 : w.heap.size < w1.heap.size := by omega
 clear hc1 hf1
 go_wp2_with fail
 go_region_held3 (fun ww => ww.cell? ⟨r, 0, none⟩ = some (.pointer (some ⟨d, 0, none⟩)) ∧ ww.cell? ⟨d, 0, none⟩ = some (.string p.t) ∧ ww.cell? ⟨w.heap.size, 0, none⟩ = some (.int .i64 i) ∧ ww.cell? ⟨w.heap.size, 1, none⟩ = some (.int .i64 j) ∧ ww.cell? ⟨w.heap.size, 2, none⟩ = some (.bool l)) (exact qK) (first | (go_at_call 173; with_reducible refine Calls.mono (HT.out (w1.alloc (.cells #[.string ⟨#[]⟩, .bool false] 99)).drew) ?_; rintro r2 w2 ⟨rfl, h2⟩; obtain ⟨hc2, hf2, hz2⟩ := qb h2; simp at hz2; have hn0 : w2.cell? ⟨w1.heap.size, 0, none⟩ = some (.string ⟨#[]⟩) := (hc2 (w1.heap.size) 0 qi).trans qi; have hn1 : w2.cell? ⟨w1.heap.size, 1, none⟩ = some (.bool false) := (hc2 (w1.heap.size) 1 qi).trans qi; have hq2 : ∀ o, w2.frozen? ⟨w1.heap.size, o, none⟩ = false := (fun o => (hf2 (w1.heap.size) o qi).trans qi); clear hc2 hf2) | (go_at_call 173; with_reducible refine Calls.mono (HT.out w1.drew) ?_; rintro r2 w2 ⟨rfl, h2⟩; have hz2 := h2.size; simp at hz2))
 rename_i hHeld
 have E : DoAt w (w2.alloc (.cells #[.string X, .bool l] 99)) r d m w.heap.size w2.heap.size p f i j l X := by
  exact qt32
 clear hHeld h1 h2 hz2 hg H d0 d1 r0 p0 p1 p2
 generalize (w2.alloc (.cells #[.string X, .bool l] 99)) = W at *
 generalize w2.heap.size = k at *
 rotate_left
 rename_i hHeld
 have E : DoAt w ((w2.setCell ⟨w1.heap.size, 0, none⟩ (.string X)).setCell ⟨w1.heap.size, 1, none⟩ (.bool l)) r d m w.heap.size w1.heap.size p f i j l X := by
  exact qt27
 clear hHeld h1 h2 hz2 hg H d0 d1 r0 p0 p1 p2
 generalize ((w2.setCell ⟨w1.heap.size, 0, none⟩ (.string X)).setCell ⟨w1.heap.size, 1, none⟩ (.bool l)) = W at *
 generalize w1.heap.size = k at *
 rotate_left
 all_goals
  obtain ⟨rd, rg, p0, p1, p2, x0, x1, lb, lk, up, lw⟩ := E
  have H := rd
  have r0 := rd.bg.c0
  have d0 := rd.dk.c0
  have d1 := rd.dk.c1
  have hlr := rd.bg.lt
  have hld := rd.dk.lt
  go_wp2_with fail
  go_region_held3 (fun ww => ww.cell? ⟨r, 0, none⟩ = some (.pointer (some ⟨d, 0, none⟩)) ∧ ww.cell? ⟨d, 0, none⟩ = some (.string p.t) ∧ ww.cell? ⟨d, 1, none⟩ = some (.int .i64 p.pl) ∧ ww.cell? ⟨w.heap.size, 0, none⟩ = some (.int .i64 i) ∧ ww.cell? ⟨w.heap.size, 1, none⟩ = some (.int .i64 j) ∧ ww.cell? ⟨w.heap.size, 2, none⟩ = some (.bool l)) (exact qK) ((go_at_call 174; refine Calls.mono (HD.out _) ?_; rintro r3 w3 ⟨rfl, h3⟩; have hz3 := h3.size; (try simp at hz3); (try have ⟨hl3_0, hk3_0⟩ := qL d w3.heap.size); (try have ⟨hl3_1, hk3_1⟩ := qL r w3.heap.size); (try have ⟨hl3_2, hk3_2⟩ := qL w.heap.size w3.heap.size)))
  have H3 := (rd.drew).below h3
  have G3 := (rg.drew).below h3
  have y0 := memLater h3 (memLater ((Below.refl _ _).drew) x0)
  have y1 := memLater h3 (memLater ((Below.refl _ _).drew) x1)
  have up3 : Below w.heap.size w w3 := by
   repeat exact qB
  clear rd rg x0 x1 up h3 H r0 d0 d1
  go_wp2_with fail
  refine Calls.mono (HBc.out _ H3) ?_
  rintro e4 w4 ⟨rfl, H4, u4⟩
  have G4 : RgAt w4 m f := G3.of_block (u4.block m G3.lt (by simp; exact hmd))
  have z0 := u4.was y0 qs
  have z1 := u4.was y1 qs
  go_wp2_with fail
  refine Calls.mono (HWs.out _) ?_
  rintro e5 w5 ⟨rfl, h5⟩
  have H5 := H4.below h5
  have G5 := G4.below h5
  have U6 : Upd [d, m] w w5 := Upd.below (Upd.trans (Upd.of_below up3) (Upd.mono u4 qi)) h5
  have r0 := H5.bg.c0
  clear z0 z1 y0 y1 G4 G3 H3 H4 u4 h5 up3
  go_wp2_with fail
  refine Calls.mono (HTN.out _ H5) ?_
  rintro e7 w7 ⟨rfl, H7, u7⟩
  have G7 : RgAt w7 m f := G5.of_block (u7.block m G5.lt (by simp; exact hmd))
  have r7 := H7.bg.c0
  go_wp2_with fail
  refine Calls.mono (HMv.out _ H7) ?_
  rintro e8 w8 ⟨rfl, H8, u8⟩
  have G8 : RgAt w8 m f := G7.of_block (u8.block m G7.lt (by simp; exact hmd))
  have U8 : Upd [d, m] w w8 := (U6.trans (u7.mono qi)).trans (u8.mono qi)
  clear u7 u8 U6 H7 H5 G7 G5
  go_wp2
  go_ret
  exact ⟨rfl, H8, G8, U8⟩
def putP (p : Pg) (b : ByteArray) : Pg := if (put p.t b p.pl).size ≤ 1000 then { p with t := put p.t b p.pl, pl := p.pl + b.size } else p
def wipeP (p : Pg) : Pg := if p.pl = 0 then p else { p with t := p.t.extract 0 (p.pl - 1) ++ p.t.extract p.pl p.t.size, pl := p.pl - 1 }
theorem iPut_any (r d : Nat) (p : Pg) (b : ByteArray) (w : World) (h : RdAt w r d p) (hs : p.t.size ≤ 1000) (hb : b.size ≤ 1000000) (hk : p.pl ≤ p.t.size) :
  Calls Tryz.prog 306 #[.agg #[.pointer (some ⟨d, 0, none⟩)], .string b] w fun e w' => e = .returned (.tuple #[]) ∧ RdAt w' r d (putP p b) ∧ Upd [d] w w' := by
 unfold putP
 by_cases hf : (put p.t b p.pl).size ≤ 1000
 ·rw [if_pos hf]; exact iPut_fits r d p b w h hs hb hk hf
 ·rw [if_neg hf]
  refine Calls.mono (iPut_long r d p b w h hs hb hk qo) ?_
  rintro e w' ⟨rfl, h1⟩
  exact ⟨rfl, h.below h1, Upd.of_below h1⟩
theorem iWipe_any (r d : Nat) (p : Pg) (w : World) (h : RdAt w r d p) (hs : p.t.size ≤ 1000) (hk : p.pl ≤ p.t.size) :
  Calls Tryz.prog 308 #[.agg #[.pointer (some ⟨d, 0, none⟩)]] w fun e w' => e = .returned (.tuple #[]) ∧ RdAt w' r d (wipeP p) ∧ Upd [d] w w' := by
 unfold wipeP
 by_cases hf : p.pl = 0
 ·rw [if_pos hf]
  refine Calls.mono (iWipe_none r d p w h hf) ?_
  rintro e w' ⟨rfl, h1⟩
  exact ⟨rfl, h.below h1, Upd.of_below h1⟩
 ·rw [if_neg hf]
  have := iWipe_one r d p (p.pl - 1) w h qo hs hk
  rw [show p.pl - 1 + 1 = p.pl by omega] at this
  exact this
def insP (p : Pg) (c : UInt8) : Pg :=
 if c.toNat = 10 then putP p (⟨#[10]⟩ ++ inBl p) else if c.toNat = 8 ∨ c.toNat = 127 then wipeP p else if c.toNat = 9 ∨ 32 ≤ c.toNat then putP p ⟨#[c]⟩ else p
theorem conv_oneB (ww : World) (n : Nat) (u : UInt8) (h : ww.cell? ⟨n, 0, none⟩ = some (.int .u8 u.toNat)) :
  (convert 48 9 (.slice (some ⟨n, 0, none⟩) 1 1)).run Tryz.prog ww = .ok (.string ⟨#[u]⟩) ww := by
 rw [run_convert_bytes_string ww 48 9 5 _ _ _ qk qk qk]
 rw [run_bytesToString ww ⟨n, 0, none⟩ 1 1 [(u.toNat : Int)] (by simp [loadCells, go_sem, h])]
 simp
 rfl
theorem mWritten (c : Int) (w : World) :
  Calls Tryz.prog 163 #[.int .u8 c] w fun e w' => e = .returned (.bool (decide (c = 9 ∨ 32 ≤ c))) ∧ w' = w := by
 by_cases h9 : c = 9
 ·rw [decide_eq_true (Or.inl h9)]
  subst h9
  go_enter Tryz.func163, Tryz.ntmps163
  go_wp2
  go_ret
  exact ⟨rfl, rfl⟩
 ·by_cases h32 : 32 ≤ c
  ·rw [decide_eq_true (Or.inr h32)]
   go_enter Tryz.func163, Tryz.ntmps163
   go_wp2
   all_goals
    go_ret
    exact ⟨by first | rfl | simp_all, rfl⟩
  ·rw [decide_eq_false qo]
   go_enter Tryz.func163, Tryz.ntmps163
   go_wp2
   all_goals
    go_ret
    exact ⟨by first | rfl | simp_all, rfl⟩
theorem iTake (r d : Nat) (p : Pg) (c : UInt8) (w : World) (h : RdAt w r d p) (hs : p.t.size ≤ 1000) (hk : p.pl ≤ p.t.size) :
  Calls Tryz.prog 305 #[.agg #[.pointer (some ⟨d, 0, none⟩)], .int .u8 c.toNat] w fun e w' => e = .returned (.int .i64 1) ∧ RdAt w' r d (insP p c) ∧ Upd [d] w w' := by
 have hIn : (inBl p).size ≤ 1000 := by unfold inBl; rw [ByteArray.size_extract]; omega
 have HN : Hid (∀ ww, RdAt ww r d p → qC 307 #[.agg #[.pointer (some ⟨d, 0, none⟩)]] ww (.string (inBl p))) := fun ww hh => iIndent r d p ww hh hs hk
 have HP1 : Hid (∀ ww, RdAt ww r d p → Calls Tryz.prog 306 #[.agg #[.pointer (some ⟨d, 0, none⟩)], .string (⟨#[10]⟩ ++ inBl p)] ww fun e w' => e = .returned (.tuple #[]) ∧ RdAt w' r d (putP p (⟨#[10]⟩ ++ inBl p)) ∧ Upd [d] ww w') := fun ww hh => iPut_any r d p _ ww hh hs (by rw [ByteArray.size_append]; have : (⟨#[10]⟩ : ByteArray).size = 1 := rfl; omega) hk
 have HP2 : Hid (∀ ww, RdAt ww r d p → Calls Tryz.prog 306 #[.agg #[.pointer (some ⟨d, 0, none⟩)], .string ⟨#[c]⟩] ww fun e w' => e = .returned (.tuple #[]) ∧ RdAt w' r d (putP p ⟨#[c]⟩) ∧ Upd [d] ww w') := fun ww hh => iPut_any r d p _ ww hh hs (by have : (⟨#[c]⟩ : ByteArray).size = 1 := rfl; omega) hk
 have HW : Hid (∀ ww, RdAt ww r d p → Calls Tryz.prog 308 #[.agg #[.pointer (some ⟨d, 0, none⟩)]] ww fun e w' => e = .returned (.tuple #[]) ∧ RdAt w' r d (wipeP p) ∧ Upd [d] ww w') := fun ww hh => iWipe_any r d p ww hh hs hk
 have HI : Hid (∀ ww, Calls Tryz.prog 163 #[.int .u8 c.toNat] ww fun e w' => e = .returned (.bool (decide ((c.toNat : Int) = 9 ∨ 32 ≤ (c.toNat : Int)))) ∧ w' = ww) := fun ww => mWritten _ ww
 have hcv := fun (ww : World) (n : Nat) (hh : ww.cell? ⟨n, 0, none⟩ = some (.int .u8 c.toNat)) => conv_oneB ww n c hh
 have H := h
 have hld := h.dk.lt
 unfold insP
 generalize hpp1 : putP p (⟨#[10]⟩ ++ inBl p) = q1 at *
 generalize hpp2 : putP p ⟨#[c]⟩ = q2 at *
 generalize wipeP p = q3 at *
 have fsz : ¬ 9223372036854775807 < (inBl p).size + 1 := by omega
 have fsz2 : ¬ 9223372036854775807 < 1 + (inBl p).size := by omega
 generalize inBl p = X at *
 by_cases h10 : c.toNat = 10
 ·rw [if_pos h10]
  have e10 : ((c.toNat : Nat) : Int) = 10 := by omega
  rw [e10]
  clear HP2 HI hcv
  go_enter Tryz.func305, Tryz.ntmps305
  have g0 : (w.alloc (.cells #[.pointer (some ⟨d, 0, none⟩)] 80)).cell? ⟨w.heap.size, 0, none⟩ = some (.pointer (some ⟨d, 0, none⟩)) := by simp
  go_wp2_with fail
  go_region_held3 (fun ww => ww.cell? ⟨w.heap.size, 0, none⟩ = some (.pointer (some ⟨d, 0, none⟩))) ((first | (go_simp; done) | ((repeat exact qM); done))) (first | (go_at_call 307; refine Calls.mono (HN.out _ qRd) ?_; rintro r1 w1 ⟨rfl, h1⟩; have hz1 := h1.size; (try simp at hz1); (try have ⟨hl1_0, hk1_0⟩ := qL w.heap.size w1.heap.size)) | (go_at_call 306; refine Calls.mono (HP1.out _ qRd) ?_; rintro r3 w3 ⟨rfl, h3, u3⟩; have hz3 := u3.size; (try simp at hz3); have a2 := u3.was (b := w.heap.size) (o := 0) (v := .pointer (some ⟨d, 0, none⟩)) qM qs))
  exact qt16
 ·rw [if_neg h10]
  have e10 : (((c.toNat : Nat) : Int) == 10) = false := by simp; omega
  by_cases h8 : c.toNat = 8 ∨ c.toNat = 127
  ·rw [if_pos h8]
   clear HP1 HP2 HI hcv HN
   rcases h8 with h8 | h8
   all_goals
    have e8 : (((c.toNat : Nat) : Int) = 8) ∨ (((c.toNat : Nat) : Int) = 127) := by omega
    rw [show ((c.toNat : Nat) : Int) = _ from congrArg Nat.cast h8]
    go_enter Tryz.func305, Tryz.ntmps305
    go_wp2_with fail
    refine Calls.mono (HW.out _ qRd) ?_
    rintro e w1 ⟨rfl, h1, u1⟩
    go_wp2
    go_ret
    refine ⟨rfl, ?_, ?_⟩
    ·repeat exact qRd
    ·repeat exact qU
  ·rw [if_neg h8]
   have e8 : (((c.toNat : Nat) : Int) == 8) = false := by simp; omega
   have e127 : (((c.toNat : Nat) : Int) == 127) = false := by simp; omega
   clear HP1 HN HW
   by_cases hw : c.toNat = 9 ∨ 32 ≤ c.toNat
   ·rw [if_pos hw]
    have HI2 : Hid (∀ ww, Calls Tryz.prog 163 #[.int .u8 c.toNat] ww fun e w' => e = .returned (.bool true) ∧ w' = ww) := by
     intro ww
     have := HI.out ww
     rw [decide_eq_true qo] at this
     exact this
    clear HI hw
    go_enter Tryz.func305, Tryz.ntmps305
    go_wp2_with fail
    refine (HI2.out _).mono ?_
    rintro e w' ⟨rfl, rfl⟩
    go_wp2_with fail
    refine Calls.mono (HP2.out _ qRd) ?_
    rintro e w1 ⟨rfl, h1, u1⟩
    exact qt16
   ·rw [if_neg hw]
    have HI2 : Hid (∀ ww, Calls Tryz.prog 163 #[.int .u8 c.toNat] ww fun e w' => e = .returned (.bool false) ∧ w' = ww) := by
     intro ww
     have := HI.out ww
     rw [decide_eq_false qo] at this
     exact this
    clear HI hw hcv
    go_enter Tryz.func305, Tryz.ntmps305
    go_wp2_with fail
    refine (HI2.out _).mono ?_
    rintro e w' ⟨rfl, rfl⟩
    exact qt16
end Go.Proofs.YtlendfhehhacpaaGreat
