/- Joined of the texts ModesI, ModesJ, ModesN, LawB. -/
import Derived.Test.YtlendfhehhacpaaGreatP09
import Derived.Test.YtlendfhehhacpaaGreatP10
import Derived.Test.YtlendfhehhacpaaGreatP25
import Derived.Test.YtlendfhehhacpaaGreatP45
import Derived.Test.YtlendfhehhacpaaGreatP03
set_option linter.unusedVariables false
set_option linter.unusedSimpArgs false
set_option maxRecDepth 100000
set_option maxHeartbeats 8000000
namespace Go.Proofs.YtlendfhehhacpaaGreat
open Go.RowKit
theorem mTake_part (r d : Nat) (p p2 : Pg) (key O : Int) (w : World) (h : RdAt w r d p) (hp : ¬ p.part = 0)
    (HC : GivesR 138 #[.agg #[.pointer (some ⟨r, 0, none⟩)], .int .u8 key] r d p p2 O) :
    Calls Tryz.prog 137 #[.agg #[.pointer (some ⟨r, 0, none⟩)], .int .u8 key] w fun e w' => e = .returned (.int .i64 O) ∧ RdAt w' r d p2 ∧ Upd [r, d] w w' := by
  have H := h
  obtain ⟨b0, b1, b2, b3, b4, b5, bz, bl⟩ := h.bg
  clear b1 b2 b3 b4 h
  have l1 : r < w.heap.size + 1 := by omega
  have hp' : (p.part == 0) = false := by simp [hp]
  clear hp
  go_enter Tryz.func137, Tryz.ntmps137
  go_wp2_with fail
  refine Calls.mono (HC.out _ (by (repeat (with_reducible first | exact H | refine RdAt.alloc ?_ _ | refine RdAt.drewN ?_ _ | refine RdAt.drew ?_ | refine r_o ?_ _)))) ?_
  rintro e w1 ⟨rfl, h1, u1⟩
  go_wp2
  go_ret
  refine ⟨rfl, ?_, ?_⟩
  · repeat (with_reducible first | exact h1 | refine r_o ?_ _ | refine RdAt.alloc ?_ _ | refine RdAt.drewN ?_ _ | refine RdAt.drew ?_)
  · repeat (with_reducible first | exact Upd.refl _ _ | refine u_s ?_ _ | refine Upd.alloc ?_ _ | refine Upd.drewN ?_ _ | refine Upd.drew ?_ | refine Upd.trans ?_ (Upd.mono u1 (by simp)))
theorem mTake_digit (r d : Nat) (p : Pg) (key : Int) (w : World) (h : RdAt w r d p) (hp : p.part = 0) (hv : p.verb = 0) (hn : p.n ≤ 99) (hd : Nib.isD p.n key = true) :
    Calls Tryz.prog 137 #[.agg #[.pointer (some ⟨r, 0, none⟩)], .int .u8 key] w fun e w' => e = .returned (.int .i64 0) ∧ RdAt w' r d { p with n := Nib.nextN p.n key } ∧ Upd [r, d] w w' := by
  have H := h
  have HD : Hid (∀ ww, RdAt ww r d p → Calls Tryz.prog 139 #[.pointer (some ⟨r, 1, none⟩), .int .u8 key] ww fun e w' => e = .returned (.bool true) ∧ RdAt w' r d { p with n := Nib.nextN p.n key } ∧ Upd [r] ww w') := fun ww hh => mDigit_yes r d p key ww hh hv hn hd
  obtain ⟨b0, b1, b2, b3, b4, b5, bz, bl⟩ := h.bg
  rw [hp] at b5
  clear b1 b2 b3 b4 h
  have l1 : r < w.heap.size + 1 := by omega
  generalize hp2 : ({ p with n := Nib.nextN p.n key } : Pg) = p2 at *
  clear hp2 hp hv hn hd
  go_enter Tryz.func137, Tryz.ntmps137
  go_wp2_with fail
  refine Calls.mono (HD.out _ (by (repeat (with_reducible first | exact H | refine RdAt.alloc ?_ _ | refine RdAt.drewN ?_ _ | refine RdAt.drew ?_ | refine r_o ?_ _)))) ?_
  rintro e w1 ⟨rfl, h1, u1⟩
  go_wp2
  go_ret
  refine ⟨rfl, ?_, ?_⟩
  · repeat (with_reducible first | exact h1 | refine r_o ?_ _ | refine RdAt.alloc ?_ _ | refine RdAt.drewN ?_ _ | refine RdAt.drew ?_)
  · repeat (with_reducible first | exact Upd.refl _ _ | refine u_s ?_ _ | refine Upd.alloc ?_ _ | refine Upd.drewN ?_ _ | refine Upd.drew ?_ | refine Upd.trans ?_ (Upd.mono u1 (by simp)))
theorem mTake_cmd (r d : Nat) (p p2 : Pg) (key O : Int) (w : World) (h : RdAt w r d p) (hp : p.part = 0) (hv : p.verb = 0) (hd : Nib.isD p.n key = false)
    (HC : GivesR 141 #[.agg #[.pointer (some ⟨r, 0, none⟩)], .int .u8 key] r d p p2 O) :
    Calls Tryz.prog 137 #[.agg #[.pointer (some ⟨r, 0, none⟩)], .int .u8 key] w fun e w' => e = .returned (.int .i64 O) ∧ RdAt w' r d p2 ∧ Upd [r, d] w w' := by
  have H := h
  have HD : Hid (∀ ww, RdAt ww r d p → Calls Tryz.prog 139 #[.pointer (some ⟨r, 1, none⟩), .int .u8 key] ww fun e w' => e = .returned (.bool false) ∧ Below ww.heap.size ww w') := fun ww hh => mDigit_no r d p key ww hh hv hd
  obtain ⟨b0, b1, b2, b3, b4, b5, bz, bl⟩ := h.bg
  rw [hp] at b5
  rw [hv] at b3
  clear b1 b2 b4 h hp hv hd
  have l1 : r < w.heap.size + 1 := by omega
  go_enter Tryz.func137, Tryz.ntmps137
  go_wp2_with fail
  refine Calls.mono (HD.out _ (by (repeat (with_reducible first | exact H | refine RdAt.alloc ?_ _ | refine RdAt.drewN ?_ _ | refine RdAt.drew ?_ | refine r_o ?_ _)))) ?_
  rintro e w1 ⟨rfl, h1⟩
  obtain ⟨hc1, hf1⟩ := bcell h1
  have hz1 := h1.size
  simp at hz1
  have l2 : r < w1.heap.size := by omega
  go_wp2_with fail
  refine Calls.mono (HC.out _ (by (repeat (with_reducible first | exact H | refine RdAt.alloc ?_ _ | refine RdAt.drewN ?_ _ | refine RdAt.drew ?_ | refine RdAt.below ?_ h1 | refine r_o ?_ _)))) ?_
  rintro e w2 ⟨rfl, h2, u2⟩
  go_wp2
  go_ret
  refine ⟨rfl, ?_, ?_⟩
  · repeat (with_reducible first | exact h2 | refine r_o ?_ _ | refine RdAt.alloc ?_ _ | refine RdAt.drewN ?_ _ | refine RdAt.drew ?_)
  · repeat (with_reducible first | exact Upd.refl _ _ | refine u_s ?_ _ | refine Upd.alloc ?_ _ | refine Upd.drewN ?_ _ | refine Upd.drew ?_ | refine Upd.trans ?_ (Upd.mono u2 (by simp)) | refine Upd.below ?_ h1)
theorem mTurn (r d : Nat) (p : Pg) (mode : Int) (w : World) (h : RdAt w r d p) :
    Calls Tryz.prog 312 #[.agg #[.pointer (some ⟨r, 0, none⟩)], .int .i64 mode] w fun e w' => e = .returned (.int .i64 1) ∧ RdAt w' r d (if p.mode = mode then { p with mode := 0, anchor := 0 } else { p with mode := mode }) ∧ Upd [r, d] w w' := by
  have H := h
  have b0 := h.bg.c0
  have bl := h.bg.lt
  have c3 := h.dk.c3
  have dl := h.dk.lt
  have fz := h.dk.fz
  have l1 : r < w.heap.size + 1 := by omega
  have l2 : d < w.heap.size + 1 := by omega
  by_cases hm : p.mode = mode
  · have HM : Hid (∀ ww, RdAt ww r d p → Calls Tryz.prog 136 #[.pointer (some ⟨d, 0, none⟩)] ww fun e w' => e = .returned (.tuple #[]) ∧ RdAt w' r d { p with mode := 0, anchor := 0 } ∧ Upd [d] ww w') := fun ww hh => mToNormal r d p ww hh
    rw [if_pos hm]
    rw [hm] at c3
    generalize hp2 : ({ p with mode := 0, anchor := 0 } : Pg) = p2 at *
    clear hp2 h hm
    go_enter Tryz.func312, Tryz.ntmps312
    go_wp2_with fail
    refine Calls.mono (HM.out _ (by (repeat (with_reducible first | exact H | refine RdAt.alloc ?_ _ | refine RdAt.drewN ?_ _ | refine RdAt.drew ?_ | refine r_o ?_ _)))) ?_
    rintro e w1 ⟨rfl, h1, u1⟩
    go_wp2
    go_ret
    refine ⟨rfl, ?_, ?_⟩
    · repeat (with_reducible first | exact h1 | refine r_o ?_ _ | refine RdAt.alloc ?_ _ | refine RdAt.drewN ?_ _ | refine RdAt.drew ?_)
    · repeat (with_reducible first | exact Upd.refl _ _ | refine u_s ?_ _ | refine Upd.alloc ?_ _ | refine Upd.drewN ?_ _ | refine Upd.drew ?_ | refine Upd.trans ?_ (Upd.mono u1 (by simp)))
  · have HS : Hid (∀ ww, RdAt ww r d p → RdAt (ww.setCell ⟨d, 3, none⟩ (.int .i64 mode)) r d { p with mode := mode }) := fun ww hh => hh.set_mode mode
    rw [if_neg hm]
    have hm' : (p.mode == mode) = false := by simp [hm]
    generalize hp2 : ({ p with mode := mode } : Pg) = p2 at *
    clear hp2 h hm
    go_enter Tryz.func312, Tryz.ntmps312
    go_wp2
    go_ret
    refine ⟨rfl, ?_, ?_⟩
    · (repeat (with_reducible first | exact H | refine HS.out _ ?_ | refine RdAt.alloc ?_ _ | refine RdAt.drewN ?_ _ | refine RdAt.drew ?_))
    · repeat (with_reducible first | exact Upd.refl _ _ | assumption | refine u_s ?_ _ | refine Upd.alloc ?_ _ | refine Upd.drewN ?_ _ | refine Upd.drew ?_)
def kMrk : List Int := [34, 105, 97, 111, 118, 86, 120, 115, 100, 99, 121, 62, 60, 117, 85]
theorem mMCommand_way (r d : Nat) (p p2 : Pg) (key O : Int) (w : World) (h : RdAt w r d p) (hk : ∀ c, c ∈ kMrk → ¬ key = c)
    (HC : GivesR 148 #[.pointer (some ⟨r, 0, none⟩), .int .u8 key] r d p p2 O) :
    Calls Tryz.prog 310 #[.agg #[.pointer (some ⟨r, 0, none⟩)], .int .u8 key] w fun e w' => e = .returned (.int .i64 O) ∧ RdAt w' r d p2 ∧ Upd [r, d] w w' := by
  have H := h
  have k34 : (key == 34) = false := by simp [hk 34 (by decide)]
  have k105 : (key == 105) = false := by simp [hk 105 (by decide)]
  have k97 : (key == 97) = false := by simp [hk 97 (by decide)]
  have k111 : (key == 111) = false := by simp [hk 111 (by decide)]
  have k118 : (key == 118) = false := by simp [hk 118 (by decide)]
  have k86 : (key == 86) = false := by simp [hk 86 (by decide)]
  have k120 : (key == 120) = false := by simp [hk 120 (by decide)]
  have k115 : (key == 115) = false := by simp [hk 115 (by decide)]
  have k100 : (key == 100) = false := by simp [hk 100 (by decide)]
  have k99 : (key == 99) = false := by simp [hk 99 (by decide)]
  have k121 : (key == 121) = false := by simp [hk 121 (by decide)]
  have k62 : (key == 62) = false := by simp [hk 62 (by decide)]
  have k60 : (key == 60) = false := by simp [hk 60 (by decide)]
  have k117 : (key == 117) = false := by simp [hk 117 (by decide)]
  have k85 : (key == 85) = false := by simp [hk 85 (by decide)]
  clear hk h
  go_enter Tryz.func310, Tryz.ntmps310
  go_wp2_with fail
  refine Calls.mono (HC.out _ (by (repeat (with_reducible first | exact H | refine RdAt.alloc ?_ _ | refine RdAt.drewN ?_ _ | refine RdAt.drew ?_ | refine r_o ?_ _)))) ?_
  rintro e w1 ⟨rfl, h1, u1⟩
  go_wp2
  go_ret
  refine ⟨rfl, ?_, ?_⟩
  · repeat (with_reducible first | exact h1 | refine r_o ?_ _ | refine RdAt.alloc ?_ _ | refine RdAt.drewN ?_ _ | refine RdAt.drew ?_)
  · repeat (with_reducible first | exact Upd.refl _ _ | refine u_s ?_ _ | refine Upd.alloc ?_ _ | refine Upd.drewN ?_ _ | refine Upd.drew ?_ | refine Upd.trans ?_ (Upd.mono u1 (by simp)))
theorem mMCommand_turn (r d : Nat) (p : Pg) (key : Int) (w : World) (h : RdAt w r d p) (hk : key = 118 ∨ key = 86) :
    Calls Tryz.prog 310 #[.agg #[.pointer (some ⟨r, 0, none⟩)], .int .u8 key] w fun e w' => e = .returned (.int .i64 1) ∧ RdAt w' r d (if p.mode = (if key = 86 then 3 else 2) then { p with mode := 0, anchor := 0 } else { p with mode := if key = 86 then 3 else 2 }) ∧ Upd [r, d] w w' := by
  have H := h
  rcases hk with hk | hk
  · have HM : GivesR 312 #[.agg #[.pointer (some ⟨r, 0, none⟩)], .int .i64 2] r d p (if p.mode = 2 then { p with mode := 0, anchor := 0 } else { p with mode := 2 }) 1 := fun ww hh => mTurn r d p 2 ww hh
    subst hk
    rw [if_neg (show ¬ (118 : Int) = 86 by decide)]
    generalize (if p.mode = 2 then ({ p with mode := 0, anchor := 0 } : Pg) else { p with mode := 2 }) = p2 at *
    clear h
    go_enter Tryz.func310, Tryz.ntmps310
    go_wp2_with fail
    refine Calls.mono (HM.out _ (by (repeat (with_reducible first | exact H | refine RdAt.alloc ?_ _ | refine RdAt.drewN ?_ _ | refine RdAt.drew ?_ | refine r_o ?_ _)))) ?_
    rintro e w1 ⟨rfl, h1, u1⟩
    go_wp2
    go_ret
    refine ⟨rfl, ?_, ?_⟩
    · repeat (with_reducible first | exact h1 | refine r_o ?_ _ | refine RdAt.alloc ?_ _ | refine RdAt.drewN ?_ _ | refine RdAt.drew ?_)
    · repeat (with_reducible first | exact Upd.refl _ _ | refine u_s ?_ _ | refine Upd.alloc ?_ _ | refine Upd.drewN ?_ _ | refine Upd.drew ?_ | refine Upd.trans ?_ (Upd.mono u1 (by simp)))
  · have HM : GivesR 312 #[.agg #[.pointer (some ⟨r, 0, none⟩)], .int .i64 3] r d p (if p.mode = 3 then { p with mode := 0, anchor := 0 } else { p with mode := 3 }) 1 := fun ww hh => mTurn r d p 3 ww hh
    subst hk
    rw [if_pos (show (86 : Int) = 86 by decide)]
    generalize (if p.mode = 3 then ({ p with mode := 0, anchor := 0 } : Pg) else { p with mode := 3 }) = p2 at *
    clear h
    go_enter Tryz.func310, Tryz.ntmps310
    go_wp2_with fail
    refine Calls.mono (HM.out _ (by (repeat (with_reducible first | exact H | refine RdAt.alloc ?_ _ | refine RdAt.drewN ?_ _ | refine RdAt.drew ?_ | refine r_o ?_ _)))) ?_
    rintro e w1 ⟨rfl, h1, u1⟩
    go_wp2
    go_ret
    refine ⟨rfl, ?_, ?_⟩
    · repeat (with_reducible first | exact h1 | refine r_o ?_ _ | refine RdAt.alloc ?_ _ | refine RdAt.drewN ?_ _ | refine RdAt.drew ?_)
    · repeat (with_reducible first | exact Upd.refl _ _ | refine u_s ?_ _ | refine Upd.alloc ?_ _ | refine Upd.drewN ?_ _ | refine Upd.drew ?_ | refine Upd.trans ?_ (Upd.mono u1 (by simp)))
theorem mMTake_part (r d : Nat) (p p2 : Pg) (key O : Int) (w : World) (h : RdAt w r d p) (hp : ¬ p.part = 0)
    (HC : GivesR 145 #[.pointer (some ⟨r, 0, none⟩), .int .u8 key] r d p p2 O) :
    Calls Tryz.prog 309 #[.agg #[.pointer (some ⟨r, 0, none⟩)], .int .u8 key] w fun e w' => e = .returned (.int .i64 O) ∧ RdAt w' r d p2 ∧ Upd [r, d] w w' := by
  have H := h
  obtain ⟨b0, b1, b2, b3, b4, b5, bz, bl⟩ := h.bg
  clear b1 b2 b3 b4 h
  have l1 : r < w.heap.size + 1 := by omega
  have hp' : (p.part == 0) = false := by simp [hp]
  clear hp
  go_enter Tryz.func309, Tryz.ntmps309
  go_wp2_with fail
  refine Calls.mono (HC.out _ (by (repeat (with_reducible first | exact H | refine RdAt.alloc ?_ _ | refine RdAt.drewN ?_ _ | refine RdAt.drew ?_ | refine r_o ?_ _)))) ?_
  rintro e w1 ⟨rfl, h1, u1⟩
  go_wp2
  go_ret
  refine ⟨rfl, ?_, ?_⟩
  · repeat (with_reducible first | exact h1 | refine r_o ?_ _ | refine RdAt.alloc ?_ _ | refine RdAt.drewN ?_ _ | refine RdAt.drew ?_)
  · repeat (with_reducible first | exact Upd.refl _ _ | refine u_s ?_ _ | refine Upd.alloc ?_ _ | refine Upd.drewN ?_ _ | refine Upd.drew ?_ | refine Upd.trans ?_ (Upd.mono u1 (by simp)))
theorem mMTake_digit (r d : Nat) (p : Pg) (key : Int) (w : World) (h : RdAt w r d p) (hp : p.part = 0) (hv : p.verb = 0) (hn : p.n ≤ 99) (hd : Nib.isD p.n key = true) :
    Calls Tryz.prog 309 #[.agg #[.pointer (some ⟨r, 0, none⟩)], .int .u8 key] w fun e w' => e = .returned (.int .i64 0) ∧ RdAt w' r d { p with n := Nib.nextN p.n key } ∧ Upd [r, d] w w' := by
  have H := h
  have HD : Hid (∀ ww, RdAt ww r d p → Calls Tryz.prog 139 #[.pointer (some ⟨r, 1, none⟩), .int .u8 key] ww fun e w' => e = .returned (.bool true) ∧ RdAt w' r d { p with n := Nib.nextN p.n key } ∧ Upd [r] ww w') := fun ww hh => mDigit_yes r d p key ww hh hv hn hd
  obtain ⟨b0, b1, b2, b3, b4, b5, bz, bl⟩ := h.bg
  rw [hp] at b5
  clear b1 b2 b3 b4 h
  have l1 : r < w.heap.size + 1 := by omega
  generalize hp2 : ({ p with n := Nib.nextN p.n key } : Pg) = p2 at *
  clear hp2 hp hv hn hd
  go_enter Tryz.func309, Tryz.ntmps309
  go_wp2_with fail
  refine Calls.mono (HD.out _ (by (repeat (with_reducible first | exact H | refine RdAt.alloc ?_ _ | refine RdAt.drewN ?_ _ | refine RdAt.drew ?_ | refine r_o ?_ _)))) ?_
  rintro e w1 ⟨rfl, h1, u1⟩
  go_wp2
  go_ret
  refine ⟨rfl, ?_, ?_⟩
  · repeat (with_reducible first | exact h1 | refine r_o ?_ _ | refine RdAt.alloc ?_ _ | refine RdAt.drewN ?_ _ | refine RdAt.drew ?_)
  · repeat (with_reducible first | exact Upd.refl _ _ | refine u_s ?_ _ | refine Upd.alloc ?_ _ | refine Upd.drewN ?_ _ | refine Upd.drew ?_ | refine Upd.trans ?_ (Upd.mono u1 (by simp)))
theorem mMTake_cmd (r d : Nat) (p p2 : Pg) (key O : Int) (w : World) (h : RdAt w r d p) (hp : p.part = 0) (hv : p.verb = 0) (hd : Nib.isD p.n key = false)
    (HC : GivesR 310 #[.agg #[.pointer (some ⟨r, 0, none⟩)], .int .u8 key] r d p p2 O) :
    Calls Tryz.prog 309 #[.agg #[.pointer (some ⟨r, 0, none⟩)], .int .u8 key] w fun e w' => e = .returned (.int .i64 O) ∧ RdAt w' r d p2 ∧ Upd [r, d] w w' := by
  have H := h
  have HD : Hid (∀ ww, RdAt ww r d p → Calls Tryz.prog 139 #[.pointer (some ⟨r, 1, none⟩), .int .u8 key] ww fun e w' => e = .returned (.bool false) ∧ Below ww.heap.size ww w') := fun ww hh => mDigit_no r d p key ww hh hv hd
  obtain ⟨b0, b1, b2, b3, b4, b5, bz, bl⟩ := h.bg
  rw [hp] at b5
  rw [hv] at b3
  clear b1 b2 b4 h hp hv hd
  have l1 : r < w.heap.size + 1 := by omega
  go_enter Tryz.func309, Tryz.ntmps309
  go_wp2_with fail
  refine Calls.mono (HD.out _ (by (repeat (with_reducible first | exact H | refine RdAt.alloc ?_ _ | refine RdAt.drewN ?_ _ | refine RdAt.drew ?_ | refine r_o ?_ _)))) ?_
  rintro e w1 ⟨rfl, h1⟩
  obtain ⟨hc1, hf1⟩ := bcell h1
  have hz1 := h1.size
  simp at hz1
  have l2 : r < w1.heap.size := by omega
  go_wp2_with fail
  refine Calls.mono (HC.out _ (by (repeat (with_reducible first | exact H | refine RdAt.alloc ?_ _ | refine RdAt.drewN ?_ _ | refine RdAt.drew ?_ | refine RdAt.below ?_ h1 | refine r_o ?_ _)))) ?_
  rintro e w2 ⟨rfl, h2, u2⟩
  go_wp2
  go_ret
  refine ⟨rfl, ?_, ?_⟩
  · repeat (with_reducible first | exact h2 | refine r_o ?_ _ | refine RdAt.alloc ?_ _ | refine RdAt.drewN ?_ _ | refine RdAt.drew ?_)
  · repeat (with_reducible first | exact Upd.refl _ _ | refine u_s ?_ _ | refine Upd.alloc ?_ _ | refine Upd.drewN ?_ _ | refine Upd.drew ?_ | refine Upd.trans ?_ (Upd.mono u2 (by simp)) | refine Upd.below ?_ h1)
theorem Upd.more {S T : List Nat} {a w w' : World} (h : Upd S a w) (k : Upd T w w') (hs : ∀ x, x ∈ T → x ∈ S ∨ a.heap.size ≤ x) : Upd S a w' :=
  ⟨k.os.trans h.os, k.tape.trans h.tape, k.output.trans h.output, Nat.le_trans h.size k.size, fun i hi hn => (k.block i (Nat.lt_of_lt_of_le hi h.size) (fun hm => by
    rcases hs i hm with h1 | h1
    · exact hn h1
    · omega)).trans (h.block i hi hn)⟩
def Fresh (w : World) (tv tv' : Value) : Prop := ∀ k, tv'.ownBlock = some k → tv.ownBlock = some k ∨ w.heap.size ≤ k
theorem Fresh.refl (w : World) (tv : Value) : Fresh w tv tv := fun _ h => Or.inl h
theorem Fresh.nil (w : World) (tv : Value) : Fresh w tv (.slice none 0 0) := fun _ h => by simp [Value.ownBlock] at h
theorem Fresh.trans {w w1 : World} {a b c : Value} (h : Fresh w a b) (k : Fresh w1 b c) (hz : w.heap.size ≤ w1.heap.size) : Fresh w a c := fun x hx => by
  rcases k x hx with h1 | h1
  · exact h x h1
  · exact Or.inr (by omega)
theorem Fresh.blks {w : World} {a c : Value} (h : Fresh w a c) (b r d : Nat) : ∀ x, x ∈ blks b r d c → x ∈ blks b r d a ∨ w.heap.size ≤ x := by
  intro x hx
  simp only [Go.Proofs.YtlendfhehhacpaaGreat.blks, List.mem_cons, mem_own] at hx ⊢
  rcases hx with hx | hx | hx | hx
  · simp [hx]
  · simp [hx]
  · simp [hx]
  · rcases h x hx with h1 | h1
    · simp [h1]
    · exact Or.inr h1
def PressR (b r d : Nat) (dg : ByteArray) (key : Int) (p p2 : Pg) (O : Int) (M : Nat) : Prop :=
  ∀ ww tv n, NbAt ww b r d p tv n dg → n ≤ M → Calls Tryz.prog 38 #[.pointer (some ⟨b, 0, none⟩), .int .u8 key] ww fun e w' =>
    e = .returned (.int .i64 O) ∧ ∃ tv' n', NbAt w' b r d p2 tv' n' dg ∧ n' ≤ n + 1 ∧ Fresh ww tv tv' ∧ Upd (blks b r d tv) ww w'
theorem bType_any (b r d : Nat) (dg : ByteArray) (s : ByteArray) (st : Nat → Pg) (O : Nat → Int) (tv : Value) (n N : Nat) (w : World) (h : NbAt w b r d (st 0) tv n dg) (hn : n ≤ N) (hs : s.size ≤ 17592186044416)
    (HK : ∀ k, (hk : k < s.size) → PressR b r d dg (s[k]'hk).toNat (st k) (st (k + 1)) (O k) (N + k)) :
    Calls Tryz.prog 30 #[.pointer (some ⟨b, 0, none⟩), .string s] w fun e w' =>
      e = .returned (.int .i64 (sumTo (fun k => if O k = 4 then 1 else 0) s.size)) ∧ ∃ tv' n', NbAt w' b r d (st s.size) tv' n' dg ∧ n' ≤ N + s.size ∧ Fresh w tv tv' ∧ Upd (blks b r d tv) w w' := by
  have HK' : Hid (∀ k, (hk : k < s.size) → PressR b r d dg (s[k]'hk).toNat (st k) (st (k + 1)) (O k) (N + k)) := HK
  generalize hf : (fun k => if O k = 4 then 1 else 0) = f
  have HF : Hid (∀ k, f k = if O k = 4 then 1 else 0) := fun k => by rw [← hf]
  have HF1 : Hid (∀ k, f k ≤ 1) := fun k => by rw [HF.out k]; split <;> omega
  clear hf HK
  go_enter Tryz.func30, Tryz.ntmps30
  go_wp2
  go_loopw [5, 9] (fun m i wr => ∃ k : Nat, k ≤ s.size ∧ i = .int .i64 k ∧ m = .int .i64 (sumTo f k) ∧ ∃ tv' n', NbAt wr b r d (st k) tv' n' dg ∧ n' ≤ N + k ∧ Fresh w tv tv' ∧ Upd (blks b r d tv) w wr) (fun _ i _ => s.size - (intOf i).toNat)
  case atStart => exact ⟨0, Nat.zero_le _, rfl, rfl, tv, n, h, hn, Fresh.refl _ _, Upd.refl _ _⟩
  case round =>
    obtain ⟨k, hk, rfl, rfl, tv1, n1, h1, hn1, hf1, hu1⟩ := hrel
    have hsl := sumTo_le HF1.out k
    have hq1 := HF1.out k
    by_cases hlt : k < s.size
    · have HS : Hid (sumTo f (k + 1) = sumTo f k + f k) := rfl
      have HC := HK'.out k hlt _ tv1 n1 h1 hn1
      have hz := hu1.size
      go_wp2_with fail
      refine Calls.mono HC ?_
      rintro e w1 ⟨rfl, tv2, n2, h2, hn2, hf2, hu2⟩
      have HR : Hid (∃ tv' n', NbAt w1 b r d (st (k + 1)) tv' n' dg ∧ n' ≤ N + (k + 1) ∧ Fresh w tv tv' ∧ Upd (blks b r d tv) w w1) :=
        ⟨tv2, n2, h2, by omega, hf1.trans hf2 hz, hu1.more hu2 (hf1.blks b r d)⟩
      clear h1 hn1 hf1 hu1 h2 hn2 hf2 hu2 HC
      by_cases hO : O k = 4
      · have hO' : (O k == 4) = true := by simp [hO]
        have HV : Hid (sumTo f (k + 1) = sumTo f k + 1) := by rw [Hid, HS.out, HF.out k, if_pos hO]
        clear hO
        go_wp2
        go_roundw
        case rel => exact ⟨k + 1, by omega, by go_num, by rw [HV.out]; go_num, HR.out⟩
        case measure => simp [intOf] <;> omega
      · have hO' : (O k == 4) = false := by simp [hO]
        have HV : Hid (sumTo f (k + 1) = sumTo f k) := by rw [Hid, HS.out, HF.out k, if_neg hO]; omega
        clear hO
        go_wp2
        go_roundw
        case rel => exact ⟨k + 1, by omega, by go_num, by rw [HV.out], HR.out⟩
        case measure => simp [intOf] <;> omega
    · have hkn : k = s.size := by omega
      subst hkn
      go_wp2
      go_ret
      exact ⟨rfl, tv1, n1, h1, hn1, hf1, hu1⟩
def lim : Nat := 17592186044416
def WayR (key : Int) (p p2 : Pg) (O : Int) : Prop := ∀ r d, GivesR 148 #[.pointer (some ⟨r, 0, none⟩), .int .u8 key] r d p p2 O
def ComplR (key : Int) (p p2 : Pg) (O : Int) : Prop := ∀ r d, GivesR 145 #[.pointer (some ⟨r, 0, none⟩), .int .u8 key] r d p p2 O
def TakeN (key : Int) (p p2 : Pg) (O : Int) : Prop := ∀ r d, GivesR 137 #[.agg #[.pointer (some ⟨r, 0, none⟩)], .int .u8 key] r d p p2 O
def TakeM (key : Int) (p p2 : Pg) (O : Int) : Prop := ∀ r d, GivesR 309 #[.agg #[.pointer (some ⟨r, 0, none⟩)], .int .u8 key] r d p p2 O
def ProgKey (key : Int) (p p2 : Pg) (O : Int) : Prop := ∀ b r d dg, PressR b r d dg key p p2 O lim
theorem takeN_way {key O : Int} {p p2 : Pg} (h : WayR key p p2 O) (hp : p.part = 0) (hv : p.verb = 0) (hd : Nib.isD p.n key = false) (hk : ∀ c, c ∈ kCmd → ¬ key = c) : TakeN key p p2 O :=
  fun r d ww hh => mTake_cmd r d p p2 key O ww hh hp hv hd (fun w2 h2 => mCommand_way r d p p2 key O w2 h2 hk (h r d))
theorem takeM_way {key O : Int} {p p2 : Pg} (h : WayR key p p2 O) (hp : p.part = 0) (hv : p.verb = 0) (hd : Nib.isD p.n key = false) (hk : ∀ c, c ∈ kMrk → ¬ key = c) : TakeM key p p2 O :=
  fun r d ww hh => mMTake_cmd r d p p2 key O ww hh hp hv hd (fun w2 h2 => mMCommand_way r d p p2 key O w2 h2 hk (h r d))
theorem takeN_compl {key O : Int} {p p2 : Pg} (h : ComplR key p p2 O) (hp : Nib.isFind p.part = true ∨ (p.part = 103 ∧ ¬ key = 117 ∧ ¬ key = 85)) : TakeN key p p2 O :=
  fun r d ww hh => mTake_part r d p p2 key O ww hh (by
    rcases hp with h1 | h1
    · intro e; rw [e] at h1; exact absurd h1 (by decide)
    · omega) (fun w2 h2 => mNComplete r d p p2 key O w2 h2 hp (h r d))
theorem takeM_compl {key O : Int} {p p2 : Pg} (h : ComplR key p p2 O) (hp : ¬ p.part = 0) : TakeM key p p2 O :=
  fun r d ww hh => mMTake_part r d p p2 key O ww hh hp (h r d)
theorem Fresh.of {w : World} {tv tv' : Value} (h : tv'.ownBlock = tv.ownBlock ∨ ∃ g, tv'.ownBlock = some g ∧ w.heap.size ≤ g) : Fresh w tv tv' := by
  intro k hk
  rcases h with h | ⟨g, h1, h2⟩
  · left; rw [← h]; exact hk
  · right; rw [h1] at hk; simp at hk; omega
theorem prog_more {key : Int} {p p2 : Pg} (hk : ¬ key = 27) (hm : p.mode = 0 ∨ p.mode = 2 ∨ p.mode = 3) (hN : p.mode = 0 → TakeN key p p2 0) (hM : p.mode = 2 ∨ p.mode = 3 → TakeM key p p2 0) : ProgKey key p p2 0 := by
  intro b r d dg ww tv n h hn
  rcases hm with hm | hm
  · refine Calls.mono (press_normal_more b r d p p2 tv n dg key ww h hm hn (fun w2 h1 h2 => bTake_normal_more b r d tv dg p p2 key w2 h1 h2 hm hk (hN hm r d))) ?_
    rintro e w' ⟨rfl, tv', h1, h2, h3⟩
    exact ⟨rfl, tv', n + 1, h1, Nat.le_refl _, Fresh.of h2, h3⟩
  · refine Calls.mono (press_mark_more b r d p p2 tv n dg key ww h hm (fun w2 h1 h2 => bTake_marking_more b r d tv dg p p2 key w2 h1 h2 hm hk (hM hm r d))) ?_
    rintro e w' ⟨rfl, h1, h3⟩
    exact ⟨rfl, tv, n, h1, by omega, Fresh.refl _ _, h3⟩
theorem prog_done {key O : Int} {p p2 : Pg} (hk : ¬ key = 27) (hO : O = 1 ∨ O = 4) (hm : p.mode = 0 ∨ p.mode = 2 ∨ p.mode = 3) (hm2 : ¬ p2.mode = 1) (hnow : p2.now = p2.t) (hN : p.mode = 0 → TakeN key p p2 O) (hM : p.mode = 2 ∨ p.mode = 3 → TakeM key p p2 O) : ProgKey key p p2.none' O := by
  intro b r d dg ww tv n h hn
  rcases hm with hm | hm
  · refine Calls.mono (press_normal_done b r d p p2.none' tv n dg key O ww h hm hn (by omega) (by omega) hm2 hnow (fun w2 h1 h2 => bTake_normal_done b r d tv dg p p2 key O w2 h1 h2 hm hk h.br h.bd' (by omega) (by omega) (hN hm r d))) ?_
    rintro e w' ⟨rfl, h1, h3⟩
    exact ⟨rfl, _, 0, h1, by omega, Fresh.nil _ _, h3⟩
  · refine Calls.mono (press_mark_done b r d p p2.none' tv n dg key O ww h hm (by omega) (by omega) hm2 hnow (fun w2 h1 h2 => bTake_marking_done b r d tv dg p p2 key O w2 h1 h2 hm hk h.br h.bd' (by omega) (by omega) (hM hm r d))) ?_
    rintro e w' ⟨rfl, h1, h3⟩
    exact ⟨rfl, _, 0, h1, by omega, Fresh.nil _ _, h3⟩
theorem prog_esc {p : Pg} (hm : p.mode = 0 ∨ p.mode = 2 ∨ p.mode = 3) (hnow : p.now = p.t) : ProgKey 27 p { p.none' with mode := 0, anchor := 0 } 1 := by
  intro b r d dg ww tv n h hn
  rcases hm with hm | hm
  · refine Calls.mono (press_normal_done b r d p { p.none' with mode := 0, anchor := 0 } tv n dg 27 1 ww h hm hn (by omega) (by omega) (by simp) hnow (fun w2 h1 h2 => bTake_normal_esc b r d tv dg p w2 h1 h2 hm)) ?_
    rintro e w' ⟨rfl, h1, h3⟩
    exact ⟨rfl, _, 0, h1, by omega, Fresh.nil _ _, h3⟩
  · refine Calls.mono (press_mark_done b r d p { p.none' with mode := 0, anchor := 0 } tv n dg 27 1 ww h hm (by omega) (by omega) (by simp) hnow (fun w2 h1 h2 => bTake_marking_esc b r d tv dg p w2 h1 h2 hm)) ?_
    rintro e w' ⟨rfl, h1, h3⟩
    exact ⟨rfl, _, 0, h1, by omega, Fresh.nil _ _, h3⟩
end Go.Proofs.YtlendfhehhacpaaGreat
