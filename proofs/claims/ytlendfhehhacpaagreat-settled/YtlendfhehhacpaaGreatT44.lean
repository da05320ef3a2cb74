/- A part. -/
import Derived.Test.YtlendfhehhacpaaGreatT37
set_option linter.unusedVariables false
set_option linter.unusedSimpArgs false
set_option maxRecDepth 100000
set_option maxHeartbeats 8000000
namespace Go.Proofs.YtlendfhehhacpaaGreat
open Go.RowKit Nib Tryz
def olB (p : Pg) : ByteArray := p.t.extract (beg p.t p.pl) (ind p.t p.pl)
def olK (p : Pg) (key : Int) : Nat := if key = 79 then beg p.t p.pl else fin p.t p.pl
def olT (p : Pg) (key : Int) : ByteArray := if key = 79 then olB p ++ ⟨#[10]⟩ else ⟨#[10]⟩ ++ olB p
def olE (p : Pg) (key : Int) : Nat := if key = 79 then beg p.t p.pl + (olB p).size else fin p.t p.pl + 1 + (olB p).size
def olP (p : Pg) (key : Int) : Pg := if (put p.t (olT p key) (olK p key)).size ≤ 1000 then { p with t := put p.t (olT p key) (olK p key), mode := 1, anchor := 0, pl := olE p key } else p
def olO (p : Pg) (key : Int) : Int := if (put p.t (olT p key) (olK p key)).size ≤ 1000 then 1 else 4
theorem qt79 {P : Prop} (h : P := by
  have r4 := H4.bg.c0
  go_wp2_with fail
  refine Calls.mono (HW.out _ H4) ?_
  rintro e w5 ⟨rfl, h5, u5⟩
  have r5 := h5.bg.c0
  have e5 := u5.was e4 qs
  go_wp2_with fail
  refine Calls.mono (HIn.out _ h5) ?_
  rintro e w6 ⟨rfl, h6, u6⟩
  go_wp2
  go_ret
  exact ⟨rfl, h6, (U4.trans u5).trans u6⟩
 ) : P := h
theorem mOpen (r d : Nat) (p : Pg) (key : Int) (w : World) (h : RdAt w r d p) (hs : p.t.size ≤ 1000) (hl : p.pl ≤ p.t.size) (hk : key = 111 ∨ key = 79) :
  Calls Tryz.prog 153 #[.agg #[.pointer (some ⟨r, 0, none⟩)], .int .u8 key] w fun e w' => e = .returned (.int .i64 (olO p key)) ∧ RdAt w' r d (olP p key) ∧ Upd [d] w w' := by
 have HL : Hid (∀ ww, RdAt ww r d p → qC 181 #[.pointer (some ⟨d, 0, none⟩)] ww (.agg #[.int .i64 (beg p.t p.pl), .int .i64 (fin p.t p.pl)])) := fun ww hh => mLine r d p ww hh hs hl
 have HI : qH 187 #[.string p.t, .agg #[.int .i64 (beg p.t p.pl), .int .i64 (fin p.t p.pl)]] (.agg #[.int .i64 (beg p.t p.pl), .int .i64 (ind p.t p.pl)]) := fun ww => tIndent_any p.t _ _ p.pl ww hs hl rfl rfl
 have h1 := beg_le p.t p.pl
 have h2 : beg p.t p.pl ≤ ind p.t p.pl := up_ge _ _ _
 have h5 := fin_ge p.t p.pl
 have h4 := fin_le hl
 have h3 : ind p.t p.pl ≤ fin p.t p.pl := up_le qo
 have HO : qH 87 #[.string p.t, .agg #[.int .i64 (beg p.t p.pl), .int .i64 (ind p.t p.pl)]] (.string (olB p)) := fun ww => tOf_any p.t _ _ _ _ ww hs rfl rfl h2 qo
 have hbz : (olB p).size ≤ 1000 := by unfold olB; rw [ByteArray.size_extract]; omega
 have hkl : olK p key ≤ p.t.size := by unfold olK; split <;> omega
 have h10 : (⟨#[10]⟩ : ByteArray).size = 1 := rfl
 have htz : (olT p key).size ≤ 1000000 := by unfold olT; split <;> (rw [ByteArray.size_append]; omega)
 have HWf : (put p.t (olT p key) (olK p key)).size ≤ 1000 → Hid (∀ ww, RdAt ww r d p → Calls Tryz.prog 188 #[.pointer (some ⟨d, 0, none⟩), .int .i64 (olK p key : Nat), .string (olT p key)] ww fun e w' => e = .returned (.bool true) ∧ RdAt w' r d { p with t := put p.t (olT p key) (olK p key) } ∧ Upd [d] ww w') := fun hf ww hh => mWrite_fits r d p _ _ ww hh hs htz hkl hf
 have HWl : ¬ (put p.t (olT p key) (olK p key)).size ≤ 1000 → Hid (∀ ww, RdAt ww r d p → qC 188 #[.pointer (some ⟨d, 0, none⟩), .int .i64 (olK p key : Nat), .string (olT p key)] ww (.bool false)) := fun hf ww hh => mWrite_long r d p _ _ ww hh hs htz hkl qo
 have HIn : Hid (∀ ww, RdAt ww r d { p with t := put p.t (olT p key) (olK p key) } → Calls Tryz.prog 178 #[.pointer (some ⟨d, 0, none⟩), .int .i64 (olE p key : Nat)] ww fun e w' => e = .returned (.int .i64 1) ∧ RdAt w' r d { p with t := put p.t (olT p key) (olK p key), mode := 1, anchor := 0, pl := olE p key } ∧ Upd [d] ww w') := fun ww hh => mInsertAt r d _ _ ww hh
 have H := h
 have b0 := h.bg.c0
 have bl := h.bg.lt
 have c0 := h.dk.c0
 have dl := h.dk.lt
 have l1 : r < w.heap.size + 1 := by omega
 have l2 : d < w.heap.size + 1 := by omega
 unfold olP olO
 generalize hP : ({ p with t := put p.t (olT p key) (olK p key), mode := 1, anchor := 0, pl := olE p key } : Pg) = p2 at *
 generalize hP3 : ({ p with t := put p.t (olT p key) (olK p key) } : Pg) = p3 at *
 generalize put p.t (olT p key) (olK p key) = X at *
 clear hP hP3
 unfold olT olK olE at *
 generalize olB p = BL at *
 generalize beg p.t p.pl = LB at *
 generalize fin p.t p.pl = LE at *
 generalize ind p.t p.pl = LI at *
 have fs1 : ¬ 9223372036854775807 < BL.size + 1 := by omega
 have fs2 : ¬ 9223372036854775807 < 1 + BL.size := by omega
 have w1' : IntKind.i64.wrap ((LE : Int) + 1) = (LE : Int) + 1 := by rw [IntKind.wrap_i64]; omega
 have w2' : IntKind.i64.wrap ((LE : Int) + 1 + BL.size) = (LE : Int) + 1 + BL.size := by rw [IntKind.wrap_i64]; omega
 have w3' : IntKind.i64.wrap ((LB : Int) + BL.size) = (LB : Int) + BL.size := by rw [IntKind.wrap_i64]; omega
 have c1 : (((LE + 1 + BL.size : Nat)) : Int) = (LE : Int) + 1 + BL.size := by omega
 have c2 : (((LB + BL.size : Nat)) : Int) = (LB : Int) + BL.size := by omega
 clear h1 h2 h3 h4 h5 hbz hkl htz h10
 rcases hk with hk | hk
 ·subst hk
  by_cases hf : X.size ≤ 1000
  ·have HW := HWf hf
   rw [if_pos hf, if_pos hf]
   clear HWf HWl hf
   rw [if_neg qd, if_neg qd] at HW
   rw [if_neg qd, c1] at HIn
   clear c1 c2
   go_enter func153, ntmps153
   go_wp2_with fail
   refine Calls.mono (HL.out _ qRd) ?_
   rintro e w1 ⟨rfl, h1⟩
   have hz1 := h1.size
   (try simp at hz1)
   have g0 : w1.cell? ⟨w.heap.size, 0, none⟩ = some (.pointer (some ⟨r, 0, none⟩)) := memLater h1 qi
   have x0 : (w1.alloc (.cells #[.int .i64 LB, .int .i64 LE] 128)).cell? ⟨w1.heap.size, 0, none⟩ = some (.int .i64 LB) := by simp
   have x1 : (w1.alloc (.cells #[.int .i64 LB, .int .i64 LE] 128)).cell? ⟨w1.heap.size, 1, none⟩ = some (.int .i64 LE) := by simp
   go_wp2_with fail
   go_region_held3 (fun ww => ww.cell? ⟨w.heap.size, 0, none⟩ = some (.pointer (some ⟨r, 0, none⟩)) ∧ ww.cell? ⟨r, 0, none⟩ = some (.pointer (some ⟨d, 0, none⟩)) ∧ ww.cell? ⟨d, 0, none⟩ = some (.string p.t) ∧ ww.cell? ⟨w1.heap.size, 0, none⟩ = some (.int .i64 LB) ∧ ww.cell? ⟨w1.heap.size, 1, none⟩ = some (.int .i64 LE)) (exact qK) (first | (go_at_call 187; refine Calls.mono (HI.out _) ?_; rintro r2 w2 ⟨rfl, h2⟩; have hz2 := h2.size; (try simp at hz2); (try have ⟨hl2_0, hk2_0⟩ := qL d w2.heap.size); (try have ⟨hl2_1, hk2_1⟩ := qL r w2.heap.size); (try have ⟨hl2_2, hk2_2⟩ := qL w.heap.size w2.heap.size); (try have ⟨hl2_3, hk2_3⟩ := qL w1.heap.size w2.heap.size)) | (go_at_call 87; refine Calls.mono (HO.out _) ?_; rintro r3 w3 ⟨rfl, h3⟩; have hz3 := h3.size; (try simp at hz3); (try have ⟨hl3_0, hk3_0⟩ := qL d w3.heap.size); (try have ⟨hl3_1, hk3_1⟩ := qL r w3.heap.size); (try have ⟨hl3_2, hk3_2⟩ := qL w.heap.size w3.heap.size); (try have ⟨hl3_3, hk3_3⟩ := qL w1.heap.size w3.heap.size)))
   have H3 : RdAt w3 r d p := (((((H.alloc _).below h1).alloc _).drew).below h2).below h3
   have e0 : w3.cell? ⟨w.heap.size, 0, none⟩ = some (.pointer (some ⟨r, 0, none⟩)) := memLater h3 (memLater h2 (memLater ((Below.refl _ _).drew) (memLater ((Below.refl _ _).alloc (Nat.le_refl _) _) g0)))
   have y0 : w3.cell? ⟨w1.heap.size, 0, none⟩ = some (.int .i64 LB) := memLater h3 (memLater h2 (memLater ((Below.refl _ _).drew) x0))
   have y1 : w3.cell? ⟨w1.heap.size, 1, none⟩ = some (.int .i64 LE) := memLater h3 (memLater h2 (memLater ((Below.refl _ _).drew) x1))
   have U3 : Upd [d] w w3 := by
    repeat exact qU
   have z3 := U3.size
   have k3 : w.heap.size < w3.heap.size := by omega
   clear h1 h2 h3 x0 x1 g0 b0 c0
   have r0 := H3.bg.c0
   go_wp2_with fail
   go_region_held3 (fun ww => ww.cell? ⟨w1.heap.size, 0, none⟩ = some (.int .i64 LB) ∧ ww.cell? ⟨w1.heap.size, 1, none⟩ = some (.int .i64 LE)) (exact qK) (fail)
   have H4 : RdAt (w3.drew) r d p := H3.drew
   have e4 : (w3.drew).cell? ⟨w.heap.size, 0, none⟩ = some (.pointer (some ⟨r, 0, none⟩)) := memLater ((Below.refl _ _).drew) (e0)
   have U4 : Upd [d] w (w3.drew) := Upd.drew (U3)
   have k4 : w.heap.size < (w3.drew).heap.size := k3
   generalize (w3.drew) = W4 at *
   exact qt79
  ·have HW := HWl hf
   rw [if_neg hf, if_neg hf]
   clear HWf HWl hf
   rw [if_neg qd, if_neg qd] at HW
   clear HIn
   clear c1 c2
   go_enter func153, ntmps153
   go_wp2_with fail
   refine Calls.mono (HL.out _ qRd) ?_
   rintro e w1 ⟨rfl, h1⟩
   have hz1 := h1.size
   (try simp at hz1)
   have g0 : w1.cell? ⟨w.heap.size, 0, none⟩ = some (.pointer (some ⟨r, 0, none⟩)) := memLater h1 qi
   have x0 : (w1.alloc (.cells #[.int .i64 LB, .int .i64 LE] 128)).cell? ⟨w1.heap.size, 0, none⟩ = some (.int .i64 LB) := by simp
   have x1 : (w1.alloc (.cells #[.int .i64 LB, .int .i64 LE] 128)).cell? ⟨w1.heap.size, 1, none⟩ = some (.int .i64 LE) := by simp
   go_wp2_with fail
   go_region_held3 (fun ww => ww.cell? ⟨w.heap.size, 0, none⟩ = some (.pointer (some ⟨r, 0, none⟩)) ∧ ww.cell? ⟨r, 0, none⟩ = some (.pointer (some ⟨d, 0, none⟩)) ∧ ww.cell? ⟨d, 0, none⟩ = some (.string p.t) ∧ ww.cell? ⟨w1.heap.size, 0, none⟩ = some (.int .i64 LB) ∧ ww.cell? ⟨w1.heap.size, 1, none⟩ = some (.int .i64 LE)) (exact qK) (first | (go_at_call 187; refine Calls.mono (HI.out _) ?_; rintro r2 w2 ⟨rfl, h2⟩; have hz2 := h2.size; (try simp at hz2); (try have ⟨hl2_0, hk2_0⟩ := qL d w2.heap.size); (try have ⟨hl2_1, hk2_1⟩ := qL r w2.heap.size); (try have ⟨hl2_2, hk2_2⟩ := qL w.heap.size w2.heap.size); (try have ⟨hl2_3, hk2_3⟩ := qL w1.heap.size w2.heap.size)) | (go_at_call 87; refine Calls.mono (HO.out _) ?_; rintro r3 w3 ⟨rfl, h3⟩; have hz3 := h3.size; (try simp at hz3); (try have ⟨hl3_0, hk3_0⟩ := qL d w3.heap.size); (try have ⟨hl3_1, hk3_1⟩ := qL r w3.heap.size); (try have ⟨hl3_2, hk3_2⟩ := qL w.heap.size w3.heap.size); (try have ⟨hl3_3, hk3_3⟩ := qL w1.heap.size w3.heap.size)))
   have H3 : RdAt w3 r d p := (((((H.alloc _).below h1).alloc _).drew).below h2).below h3
   have e0 : w3.cell? ⟨w.heap.size, 0, none⟩ = some (.pointer (some ⟨r, 0, none⟩)) := memLater h3 (memLater h2 (memLater ((Below.refl _ _).drew) (memLater ((Below.refl _ _).alloc (Nat.le_refl _) _) g0)))
   have y0 : w3.cell? ⟨w1.heap.size, 0, none⟩ = some (.int .i64 LB) := memLater h3 (memLater h2 (memLater ((Below.refl _ _).drew) x0))
   have y1 : w3.cell? ⟨w1.heap.size, 1, none⟩ = some (.int .i64 LE) := memLater h3 (memLater h2 (memLater ((Below.refl _ _).drew) x1))
   have U3 : Upd [d] w w3 := by
    repeat exact qU
   have z3 := U3.size
   have k3 : w.heap.size < w3.heap.size := by omega
   clear h1 h2 h3 x0 x1 g0 b0 c0
   have r0 := H3.bg.c0
   go_wp2_with fail
   go_region_held3 (fun ww => ww.cell? ⟨w1.heap.size, 0, none⟩ = some (.int .i64 LB) ∧ ww.cell? ⟨w1.heap.size, 1, none⟩ = some (.int .i64 LE)) (exact qK) (fail)
   have H4 : RdAt (w3.drew) r d p := H3.drew
   have e4 : (w3.drew).cell? ⟨w.heap.size, 0, none⟩ = some (.pointer (some ⟨r, 0, none⟩)) := memLater ((Below.refl _ _).drew) (e0)
   have U4 : Upd [d] w (w3.drew) := Upd.drew (U3)
   generalize (w3.drew) = W4 at *
   have r4 := H4.bg.c0
   go_wp2_with fail
   refine Calls.mono (HW.out _ H4) ?_
   rintro e w5 ⟨rfl, h5⟩
   go_wp2
   go_ret
   exact ⟨rfl, H4.below h5, Upd.below U4 h5⟩
 ·subst hk
  by_cases hf : X.size ≤ 1000
  ·have HW := HWf hf
   rw [if_pos hf, if_pos hf]
   clear HWf HWl hf
   rw [if_pos rfl, if_pos rfl] at HW
   rw [if_pos rfl, c2] at HIn
   clear c1 c2
   go_enter func153, ntmps153
   go_wp2_with fail
   refine Calls.mono (HL.out _ qRd) ?_
   rintro e w1 ⟨rfl, h1⟩
   have hz1 := h1.size
   (try simp at hz1)
   have g0 : w1.cell? ⟨w.heap.size, 0, none⟩ = some (.pointer (some ⟨r, 0, none⟩)) := memLater h1 qi
   have x0 : (w1.alloc (.cells #[.int .i64 LB, .int .i64 LE] 128)).cell? ⟨w1.heap.size, 0, none⟩ = some (.int .i64 LB) := by simp
   have x1 : (w1.alloc (.cells #[.int .i64 LB, .int .i64 LE] 128)).cell? ⟨w1.heap.size, 1, none⟩ = some (.int .i64 LE) := by simp
   go_wp2_with fail
   go_region_held3 (fun ww => ww.cell? ⟨w.heap.size, 0, none⟩ = some (.pointer (some ⟨r, 0, none⟩)) ∧ ww.cell? ⟨r, 0, none⟩ = some (.pointer (some ⟨d, 0, none⟩)) ∧ ww.cell? ⟨d, 0, none⟩ = some (.string p.t) ∧ ww.cell? ⟨w1.heap.size, 0, none⟩ = some (.int .i64 LB) ∧ ww.cell? ⟨w1.heap.size, 1, none⟩ = some (.int .i64 LE)) (exact qK) (first | (go_at_call 187; refine Calls.mono (HI.out _) ?_; rintro r2 w2 ⟨rfl, h2⟩; have hz2 := h2.size; (try simp at hz2); (try have ⟨hl2_0, hk2_0⟩ := qL d w2.heap.size); (try have ⟨hl2_1, hk2_1⟩ := qL r w2.heap.size); (try have ⟨hl2_2, hk2_2⟩ := qL w.heap.size w2.heap.size); (try have ⟨hl2_3, hk2_3⟩ := qL w1.heap.size w2.heap.size)) | (go_at_call 87; refine Calls.mono (HO.out _) ?_; rintro r3 w3 ⟨rfl, h3⟩; have hz3 := h3.size; (try simp at hz3); (try have ⟨hl3_0, hk3_0⟩ := qL d w3.heap.size); (try have ⟨hl3_1, hk3_1⟩ := qL r w3.heap.size); (try have ⟨hl3_2, hk3_2⟩ := qL w.heap.size w3.heap.size); (try have ⟨hl3_3, hk3_3⟩ := qL w1.heap.size w3.heap.size)))
   have H3 : RdAt w3 r d p := (((((H.alloc _).below h1).alloc _).drew).below h2).below h3
   have e0 : w3.cell? ⟨w.heap.size, 0, none⟩ = some (.pointer (some ⟨r, 0, none⟩)) := memLater h3 (memLater h2 (memLater ((Below.refl _ _).drew) (memLater ((Below.refl _ _).alloc (Nat.le_refl _) _) g0)))
   have y0 : w3.cell? ⟨w1.heap.size, 0, none⟩ = some (.int .i64 LB) := memLater h3 (memLater h2 (memLater ((Below.refl _ _).drew) x0))
   have y1 : w3.cell? ⟨w1.heap.size, 1, none⟩ = some (.int .i64 LE) := memLater h3 (memLater h2 (memLater ((Below.refl _ _).drew) x1))
   have U3 : Upd [d] w w3 := by
    repeat exact qU
   have z3 := U3.size
   have k3 : w.heap.size < w3.heap.size := by omega
   clear h1 h2 h3 x0 x1 g0 b0 c0
   have r0 := H3.bg.c0
   go_wp2_with fail
   go_region_held3 (fun ww => ww.cell? ⟨w1.heap.size, 0, none⟩ = some (.int .i64 LB) ∧ ww.cell? ⟨w1.heap.size, 1, none⟩ = some (.int .i64 LE)) (exact qK) (fail)
   go_wp2_with fail
   go_region_held3 (fun ww => ww.cell? ⟨w1.heap.size, 0, none⟩ = some (.int .i64 LB) ∧ ww.cell? ⟨w1.heap.size, 1, none⟩ = some (.int .i64 LE)) (exact qK) (fail)
   have H4 : RdAt (w3.drew.drew) r d p := H3.drew.drew
   have e4 : (w3.drew.drew).cell? ⟨w.heap.size, 0, none⟩ = some (.pointer (some ⟨r, 0, none⟩)) := memLater ((Below.refl _ _).drew) (memLater ((Below.refl _ _).drew) (e0))
   have U4 : Upd [d] w (w3.drew.drew) := Upd.drew (Upd.drew (U3))
   have k4 : w.heap.size < (w3.drew.drew).heap.size := k3
   generalize (w3.drew.drew) = W4 at *
   exact qt79
  ·have HW := HWl hf
   rw [if_neg hf, if_neg hf]
   clear HWf HWl hf
   rw [if_pos rfl, if_pos rfl] at HW
   clear HIn
   clear c1 c2
   go_enter func153, ntmps153
   go_wp2_with fail
   refine Calls.mono (HL.out _ qRd) ?_
   rintro e w1 ⟨rfl, h1⟩
   have hz1 := h1.size
   (try simp at hz1)
   have g0 : w1.cell? ⟨w.heap.size, 0, none⟩ = some (.pointer (some ⟨r, 0, none⟩)) := memLater h1 qi
   have x0 : (w1.alloc (.cells #[.int .i64 LB, .int .i64 LE] 128)).cell? ⟨w1.heap.size, 0, none⟩ = some (.int .i64 LB) := by simp
   have x1 : (w1.alloc (.cells #[.int .i64 LB, .int .i64 LE] 128)).cell? ⟨w1.heap.size, 1, none⟩ = some (.int .i64 LE) := by simp
   go_wp2_with fail
   go_region_held3 (fun ww => ww.cell? ⟨w.heap.size, 0, none⟩ = some (.pointer (some ⟨r, 0, none⟩)) ∧ ww.cell? ⟨r, 0, none⟩ = some (.pointer (some ⟨d, 0, none⟩)) ∧ ww.cell? ⟨d, 0, none⟩ = some (.string p.t) ∧ ww.cell? ⟨w1.heap.size, 0, none⟩ = some (.int .i64 LB) ∧ ww.cell? ⟨w1.heap.size, 1, none⟩ = some (.int .i64 LE)) (exact qK) (first | (go_at_call 187; refine Calls.mono (HI.out _) ?_; rintro r2 w2 ⟨rfl, h2⟩; have hz2 := h2.size; (try simp at hz2); (try have ⟨hl2_0, hk2_0⟩ := qL d w2.heap.size); (try have ⟨hl2_1, hk2_1⟩ := qL r w2.heap.size); (try have ⟨hl2_2, hk2_2⟩ := qL w.heap.size w2.heap.size); (try have ⟨hl2_3, hk2_3⟩ := qL w1.heap.size w2.heap.size)) | (go_at_call 87; refine Calls.mono (HO.out _) ?_; rintro r3 w3 ⟨rfl, h3⟩; have hz3 := h3.size; (try simp at hz3); (try have ⟨hl3_0, hk3_0⟩ := qL d w3.heap.size); (try have ⟨hl3_1, hk3_1⟩ := qL r w3.heap.size); (try have ⟨hl3_2, hk3_2⟩ := qL w.heap.size w3.heap.size); (try have ⟨hl3_3, hk3_3⟩ := qL w1.heap.size w3.heap.size)))
   have H3 : RdAt w3 r d p := (((((H.alloc _).below h1).alloc _).drew).below h2).below h3
   have e0 : w3.cell? ⟨w.heap.size, 0, none⟩ = some (.pointer (some ⟨r, 0, none⟩)) := memLater h3 (memLater h2 (memLater ((Below.refl _ _).drew) (memLater ((Below.refl _ _).alloc (Nat.le_refl _) _) g0)))
   have y0 : w3.cell? ⟨w1.heap.size, 0, none⟩ = some (.int .i64 LB) := memLater h3 (memLater h2 (memLater ((Below.refl _ _).drew) x0))
   have y1 : w3.cell? ⟨w1.heap.size, 1, none⟩ = some (.int .i64 LE) := memLater h3 (memLater h2 (memLater ((Below.refl _ _).drew) x1))
   have U3 : Upd [d] w w3 := by
    repeat exact qU
   have z3 := U3.size
   have k3 : w.heap.size < w3.heap.size := by omega
   clear h1 h2 h3 x0 x1 g0 b0 c0
   have r0 := H3.bg.c0
   go_wp2_with fail
   go_region_held3 (fun ww => ww.cell? ⟨w1.heap.size, 0, none⟩ = some (.int .i64 LB) ∧ ww.cell? ⟨w1.heap.size, 1, none⟩ = some (.int .i64 LE)) (exact qK) (fail)
   go_wp2_with fail
   go_region_held3 (fun ww => ww.cell? ⟨w1.heap.size, 0, none⟩ = some (.int .i64 LB) ∧ ww.cell? ⟨w1.heap.size, 1, none⟩ = some (.int .i64 LE)) (exact qK) (fail)
   have H4 : RdAt (w3.drew.drew) r d p := H3.drew.drew
   have e4 : (w3.drew.drew).cell? ⟨w.heap.size, 0, none⟩ = some (.pointer (some ⟨r, 0, none⟩)) := memLater ((Below.refl _ _).drew) (memLater ((Below.refl _ _).drew) (e0))
   have U4 : Upd [d] w (w3.drew.drew) := Upd.drew (Upd.drew (U3))
   generalize (w3.drew.drew) = W4 at *
   have r4 := H4.bg.c0
   go_wp2_with fail
   refine Calls.mono (HW.out _ H4) ?_
   rintro e w5 ⟨rfl, h5⟩
   go_wp2
   go_ret
   exact ⟨rfl, H4.below h5, Upd.below U4 h5⟩
