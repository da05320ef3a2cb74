/- A part. -/
import Derived.Test.YtlendfhehhacpaaGreatU16
set_option linter.unusedVariables false
set_option linter.unusedSimpArgs false
set_option maxRecDepth 100000
set_option maxHeartbeats 8000000
namespace Go.Proofs.YtlendfhehhacpaaGreat
open Go.RowKit Nib Tryz
theorem mTake_part (r d : Nat) (p p2 : Pg) (key O : Int) (w : World) (h : RdAt w r d p) (hp : ¬ p.part = 0)
  (HC : GivesR 138 #[.agg #[.pointer (some ⟨r, 0, none⟩)], .int .u8 key] r d p p2 O) :
  Calls Tryz.prog 137 #[.agg #[.pointer (some ⟨r, 0, none⟩)], .int .u8 key] w fun e w' => e = .returned (.int .i64 O) ∧ RdAt w' r d p2 ∧ Upd [r, d] w w' := by
 have H := h
 obtain ⟨b0, b1, b2, b3, b4, b5, bz, bl⟩ := h.bg
 clear b1 b2 b3 b4 h
 have l1 : r < w.heap.size + 1 := by omega
 have hp' : (p.part == 0) = false := by simp [hp]
 clear hp
 go_enter func137, ntmps137
 exact qt30
theorem mTake_digit (r d : Nat) (p : Pg) (key : Int) (w : World) (h : RdAt w r d p) (hp : p.part = 0) (hv : p.verb = 0) (hn : p.n ≤ 99) (hd : isD p.n key = true) :
  Calls Tryz.prog 137 #[.agg #[.pointer (some ⟨r, 0, none⟩)], .int .u8 key] w fun e w' => e = .returned (.int .i64 0) ∧ RdAt w' r d { p with n := nextN p.n key } ∧ Upd [r, d] w w' := by
 have H := h
 have HD : Hid (∀ ww, RdAt ww r d p → Calls Tryz.prog 139 #[.pointer (some ⟨r, 1, none⟩), .int .u8 key] ww fun e w' => e = .returned (.bool true) ∧ RdAt w' r d { p with n := nextN p.n key } ∧ Upd [r] ww w') := fun ww hh => mDigit_yes r d p key ww hh hv hn hd
 obtain ⟨b0, b1, b2, b3, b4, b5, bz, bl⟩ := h.bg
 rw [hp] at b5
 clear b1 b2 b3 b4 h
 have l1 : r < w.heap.size + 1 := by omega
 generalize hp2 : ({ p with n := nextN p.n key } : Pg) = p2 at *
 clear hp2 hp hv hn hd
 go_enter func137, ntmps137
 go_wp2_with fail
 refine Calls.mono (HD.out _ qRd) ?_
 rintro e w1 ⟨rfl, h1, u1⟩
 exact qt13
theorem qt40 {P : Prop} (h : P := by
  go_wp2_with fail
  refine Calls.mono (HD.out _ qRd) ?_
  rintro e w1 ⟨rfl, h1⟩
  obtain ⟨hc1, hf1, hz1⟩ := qb h1
  simp at hz1
  have l2 : r < w1.heap.size := by omega
  go_wp2_with fail
  refine Calls.mono (HC.out _ qRd) ?_
  rintro e w2 ⟨rfl, h2, u2⟩
  exact qt13
 ) : P := h
theorem mTake_cmd (r d : Nat) (p p2 : Pg) (key O : Int) (w : World) (h : RdAt w r d p) (hp : p.part = 0) (hv : p.verb = 0) (hd : isD p.n key = false)
  (HC : GivesR 141 #[.agg #[.pointer (some ⟨r, 0, none⟩)], .int .u8 key] r d p p2 O) :
  Calls Tryz.prog 137 #[.agg #[.pointer (some ⟨r, 0, none⟩)], .int .u8 key] w fun e w' => e = .returned (.int .i64 O) ∧ RdAt w' r d p2 ∧ Upd [r, d] w w' := by
 have H := h
 have HD : Hid (∀ ww, RdAt ww r d p → qC 139 #[.pointer (some ⟨r, 1, none⟩), .int .u8 key] ww (.bool false)) := fun ww hh => mDigit_no r d p key ww hh hv hd
 obtain ⟨b0, b1, b2, b3, b4, b5, bz, bl⟩ := h.bg
 rw [hp] at b5
 rw [hv] at b3
 clear b1 b2 b4 h hp hv hd
 have l1 : r < w.heap.size + 1 := by omega
 go_enter func137, ntmps137
 exact qt40
theorem mTurn (r d : Nat) (p : Pg) (mode : Int) (w : World) (h : RdAt w r d p) :
  Calls Tryz.prog 312 #[.agg #[.pointer (some ⟨r, 0, none⟩)], .int .i64 mode] w fun e w' => e = .returned (.int .i64 1) ∧ RdAt w' r d (if p.mode = mode then { p with mode := 0, anchor := 0 } else { p with mode := mode }) ∧ Upd [r, d] w w' := by
 have H := h
 have b0 := h.bg.c0
 have bl := h.bg.lt
 have c3 := h.dk.c3
 have dl := h.dk.lt
 have fz := h.dk.fz
 have l1 : r < w.heap.size + 1 := by omega
 have l2 : d < w.heap.size + 1 := by omega
 by_cases hm : p.mode = mode
 ·have HM : Hid (∀ ww, RdAt ww r d p → Calls Tryz.prog 136 #[.pointer (some ⟨d, 0, none⟩)] ww fun e w' => e = .returned (.tuple #[]) ∧ RdAt w' r d { p with mode := 0, anchor := 0 } ∧ Upd [d] ww w') := fun ww hh => mToNormal r d p ww hh
  rw [if_pos hm]
  rw [hm] at c3
  generalize hp2 : ({ p with mode := 0, anchor := 0 } : Pg) = p2 at *
  clear hp2 h hm
  go_enter func312, ntmps312
  exact qt36
 ·have HS : Hid (∀ ww, RdAt ww r d p → RdAt (ww.setCell ⟨d, 3, none⟩ (.int .i64 mode)) r d { p with mode := mode }) := fun ww hh => hh.set_mode mode
  rw [if_neg hm]
  have hm' : (p.mode == mode) = false := by simp [hm]
  generalize hp2 : ({ p with mode := mode } : Pg) = p2 at *
  clear hp2 h hm
  go_enter func312, ntmps312
  go_wp2
  go_ret
  refine ⟨rfl, ?_, ?_⟩
  ·(repeat (with_reducible first | exact H | refine HS.out _ ?_ | refine RdAt.alloc ?_ _ | refine RdAt.drewN ?_ _ | refine RdAt.drew ?_))
  ·repeat exact qU
def kMrk : List Int := [34, 105, 97, 111, 118, 86, 120, 115, 100, 99, 121, 62, 60, 117, 85]
theorem mMCommand_way (r d : Nat) (p p2 : Pg) (key O : Int) (w : World) (h : RdAt w r d p) (hk : ∀ c, c ∈ kMrk → ¬ key = c)
  (HC : GivesR 148 #[.pointer (some ⟨r, 0, none⟩), .int .u8 key] r d p p2 O) :
  Calls Tryz.prog 310 #[.agg #[.pointer (some ⟨r, 0, none⟩)], .int .u8 key] w fun e w' => e = .returned (.int .i64 O) ∧ RdAt w' r d p2 ∧ Upd [r, d] w w' := by
 have H := h
 have k34 : (key == 34) = false := by simp [hk 34 qd]
 have k105 : (key == 105) = false := by simp [hk 105 qd]
 have k97 : (key == 97) = false := by simp [hk 97 qd]
 have k111 : (key == 111) = false := by simp [hk 111 qd]
 have k118 : (key == 118) = false := by simp [hk 118 qd]
 have k86 : (key == 86) = false := by simp [hk 86 qd]
 have k120 : (key == 120) = false := by simp [hk 120 qd]
 have k115 : (key == 115) = false := by simp [hk 115 qd]
 have k100 : (key == 100) = false := by simp [hk 100 qd]
 have k99 : (key == 99) = false := by simp [hk 99 qd]
 have k121 : (key == 121) = false := by simp [hk 121 qd]
 have k62 : (key == 62) = false := by simp [hk 62 qd]
 have k60 : (key == 60) = false := by simp [hk 60 qd]
 have k117 : (key == 117) = false := by simp [hk 117 qd]
 have k85 : (key == 85) = false := by simp [hk 85 qd]
 clear hk h
 go_enter func310, ntmps310
 exact qt30
theorem mMCommand_turn (r d : Nat) (p : Pg) (key : Int) (w : World) (h : RdAt w r d p) (hk : key = 118 ∨ key = 86) :
  Calls Tryz.prog 310 #[.agg #[.pointer (some ⟨r, 0, none⟩)], .int .u8 key] w fun e w' => e = .returned (.int .i64 1) ∧ RdAt w' r d (if p.mode = (if key = 86 then 3 else 2) then { p with mode := 0, anchor := 0 } else { p with mode := if key = 86 then 3 else 2 }) ∧ Upd [r, d] w w' := by
 have H := h
 rcases hk with hk | hk
 ·have HM : GivesR 312 #[.agg #[.pointer (some ⟨r, 0, none⟩)], .int .i64 2] r d p (if p.mode = 2 then { p with mode := 0, anchor := 0 } else { p with mode := 2 }) 1 := fun ww hh => mTurn r d p 2 ww hh
  subst hk
  rw [if_neg (show ¬ (118 : Int) = 86 by decide)]
  generalize (if p.mode = 2 then ({ p with mode := 0, anchor := 0 } : Pg) else { p with mode := 2 }) = p2 at *
  clear h
  go_enter func310, ntmps310
  exact qt36
 ·have HM : GivesR 312 #[.agg #[.pointer (some ⟨r, 0, none⟩)], .int .i64 3] r d p (if p.mode = 3 then { p with mode := 0, anchor := 0 } else { p with mode := 3 }) 1 := fun ww hh => mTurn r d p 3 ww hh
  subst hk
  rw [if_pos (show (86 : Int) = 86 by decide)]
  generalize (if p.mode = 3 then ({ p with mode := 0, anchor := 0 } : Pg) else { p with mode := 3 }) = p2 at *
  clear h
  go_enter func310, ntmps310
  exact qt36
theorem mMTake_part (r d : Nat) (p p2 : Pg) (key O : Int) (w : World) (h : RdAt w r d p) (hp : ¬ p.part = 0)
  (HC : GivesR 145 #[.pointer (some ⟨r, 0, none⟩), .int .u8 key] r d p p2 O) :
  Calls Tryz.prog 309 #[.agg #[.pointer (some ⟨r, 0, none⟩)], .int .u8 key] w fun e w' => e = .returned (.int .i64 O) ∧ RdAt w' r d p2 ∧ Upd [r, d] w w' := by
 have H := h
 obtain ⟨b0, b1, b2, b3, b4, b5, bz, bl⟩ := h.bg
 clear b1 b2 b3 b4 h
 have l1 : r < w.heap.size + 1 := by omega
 have hp' : (p.part == 0) = false := by simp [hp]
 clear hp
 go_enter func309, ntmps309
 exact qt30
theorem mMTake_digit (r d : Nat) (p : Pg) (key : Int) (w : World) (h : RdAt w r d p) (hp : p.part = 0) (hv : p.verb = 0) (hn : p.n ≤ 99) (hd : isD p.n key = true) :
  Calls Tryz.prog 309 #[.agg #[.pointer (some ⟨r, 0, none⟩)], .int .u8 key] w fun e w' => e = .returned (.int .i64 0) ∧ RdAt w' r d { p with n := nextN p.n key } ∧ Upd [r, d] w w' := by
 have H := h
 have HD : Hid (∀ ww, RdAt ww r d p → Calls Tryz.prog 139 #[.pointer (some ⟨r, 1, none⟩), .int .u8 key] ww fun e w' => e = .returned (.bool true) ∧ RdAt w' r d { p with n := nextN p.n key } ∧ Upd [r] ww w') := fun ww hh => mDigit_yes r d p key ww hh hv hn hd
 obtain ⟨b0, b1, b2, b3, b4, b5, bz, bl⟩ := h.bg
 rw [hp] at b5
 clear b1 b2 b3 b4 h
 have l1 : r < w.heap.size + 1 := by omega
 generalize hp2 : ({ p with n := nextN p.n key } : Pg) = p2 at *
 clear hp2 hp hv hn hd
 go_enter func309, ntmps309
 go_wp2_with fail
 refine Calls.mono (HD.out _ qRd) ?_
 rintro e w1 ⟨rfl, h1, u1⟩
 exact qt13
theorem mMTake_cmd (r d : Nat) (p p2 : Pg) (key O : Int) (w : World) (h : RdAt w r d p) (hp : p.part = 0) (hv : p.verb = 0) (hd : isD p.n key = false)
  (HC : GivesR 310 #[.agg #[.pointer (some ⟨r, 0, none⟩)], .int .u8 key] r d p p2 O) :
  Calls Tryz.prog 309 #[.agg #[.pointer (some ⟨r, 0, none⟩)], .int .u8 key] w fun e w' => e = .returned (.int .i64 O) ∧ RdAt w' r d p2 ∧ Upd [r, d] w w' := by
 have H := h
 have HD : Hid (∀ ww, RdAt ww r d p → qC 139 #[.pointer (some ⟨r, 1, none⟩), .int .u8 key] ww (.bool false)) := fun ww hh => mDigit_no r d p key ww hh hv hd
 obtain ⟨b0, b1, b2, b3, b4, b5, bz, bl⟩ := h.bg
 rw [hp] at b5
 rw [hv] at b3
 clear b1 b2 b4 h hp hv hd
 have l1 : r < w.heap.size + 1 := by omega
 go_enter func309, ntmps309
 exact qt40
