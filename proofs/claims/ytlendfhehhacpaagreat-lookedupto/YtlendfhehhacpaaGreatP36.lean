/- Joined of the texts ModesV. -/
import Derived.Test.YtlendfhehhacpaaGreatP35
set_option linter.unusedVariables false
set_option linter.unusedSimpArgs false
set_option maxRecDepth 100000
set_option maxHeartbeats 8000000
namespace Go.Proofs.YtlendfhehhacpaaGreat
open Go.RowKit
theorem mDigitV_no (r d : Nat) (p : Pg) (key : Int) (w : World) (h : RdAt w r d p) (hv : ¬ p.verb = 0) (hd : Nib.isD p.behind key = false) :
    Calls Tryz.prog 139 #[.pointer (some ⟨r, 1, none⟩), .int .u8 key] w fun e w' => e = .returned (.bool false) ∧ Below w.heap.size w w' := by
  obtain ⟨c0, c1, c2, c3, c4, c5, fz, lt⟩ := h.bg
  clear h
  have hv' : (p.verb == 0) = false := by simp [hv]
  have hv2 : (p.verb != 0) = true := by simp [hv]
  clear hv
  simp only [Nib.isD, decide_eq_false_iff_not] at hd
  have l1 : r < w.heap.size + 1 := by omega
  have l2 : r < w.heap.size + 1 + 1 := by omega
  by_cases h1 : key < 48
  · clear hd
    go_enter Tryz.func139, Tryz.ntmps139
    go_wp2
    refine bodyPost_ret (v := .bool false) (by simp [results, Tryz.results139, go_sem]) rfl ⟨rfl, ?_⟩
    repeat (with_reducible first | exact Below.refl _ _ | refine b_s ?_ _ | refine b_a ?_ _ | refine Below.drew ?_ | refine below_drewN ?_ _)
  · by_cases h2 : 57 < key
    · clear hd
      go_enter Tryz.func139, Tryz.ntmps139
      go_wp2
      refine bodyPost_ret (v := .bool false) (by simp [results, Tryz.results139, go_sem]) rfl ⟨rfl, ?_⟩
      repeat (with_reducible first | exact Below.refl _ _ | refine b_s ?_ _ | refine b_a ?_ _ | refine Below.drew ?_ | refine below_drewN ?_ _)
    · have h3 : key = 48 := by omega
      have h4 : p.behind = 0 := by omega
      subst h3
      rw [h4] at c4
      clear hd
      go_enter Tryz.func139, Tryz.ntmps139
      go_wp2
      refine bodyPost_ret (v := .bool false) (by simp [results, Tryz.results139, go_sem]) rfl ⟨rfl, ?_⟩
      repeat (with_reducible first | exact Below.refl _ _ | refine b_s ?_ _ | refine b_a ?_ _ | refine Below.drew ?_ | refine below_drewN ?_ _)
theorem mDigitV_yes (r d : Nat) (p : Pg) (key : Int) (w : World) (h : RdAt w r d p) (hv : ¬ p.verb = 0) (hn : p.behind ≤ 99) (hd : Nib.isD p.behind key = true) :
    Calls Tryz.prog 139 #[.pointer (some ⟨r, 1, none⟩), .int .u8 key] w fun e w' => e = .returned (.bool true) ∧ RdAt w' r d { p with behind := Nib.nextN p.behind key } ∧ Upd [r] w w' := by
  have HS := h.set_behind (Nib.nextN p.behind key)
  obtain ⟨c0, c1, c2, c3, c4, c5, fz, lt⟩ := h.bg
  have H := h
  clear h
  have hv' : (p.verb == 0) = false := by simp [hv]
  have hv2 : (p.verb != 0) = true := by simp [hv]
  clear hv
  simp only [Nib.isD, decide_eq_true_eq] at hd
  have l1 : r < w.heap.size + 1 := by omega
  have l2 : r < w.heap.size + 1 + 1 := by omega
  have h1 : ¬ key < 48 := by omega
  have h2 : ¬ 57 < key := by omega
  have hN : Nib.nextN p.behind key = if 99 < p.behind * 10 + (key - 48).toNat then 99 else p.behind * 10 + (key - 48).toNat := rfl
  have h5 : ((key == 48) = false) ∨ ((key == 48) = true ∧ (((p.behind : Nat) : Int) == 0) = false) := by
    by_cases e : key = 48
    · right; exact ⟨by simp [e], by simp; omega⟩
    · left; simp [e]
  by_cases h3 : 99 < (p.behind : Int) * 10 + (key - 48)
  · have HS2 : Hid (RdAt (w.setCell ⟨r, 4, none⟩ (.int .i64 99)) r d { p with behind := Nib.nextN p.behind key }) := by
      rw [hN, if_pos (by omega)] at HS
      rw [hN, if_pos (by omega)]
      exact HS
    generalize Nib.nextN p.behind key = NN at *
    clear hN HS hd
    rcases h5 with h5 | ⟨h5, h6⟩
    · go_enter Tryz.func139, Tryz.ntmps139
      go_wp2
      all_goals
        refine bodyPost_ret (v := .bool true) (by simp [results, Tryz.results139, go_sem]) rfl ⟨rfl, ?_, ?_⟩
        · repeat (with_reducible first | exact HS2.out | refine r_o ?_ _ | refine RdAt.alloc ?_ _ | refine RdAt.drewN ?_ _ | refine RdAt.drew ?_)
        · repeat (with_reducible first | exact Upd.refl _ _ | assumption | refine u_s ?_ _ | refine Upd.alloc ?_ _ | refine Upd.drewN ?_ _ | refine Upd.drew ?_)
    · go_enter Tryz.func139, Tryz.ntmps139
      go_wp2
      all_goals
        refine bodyPost_ret (v := .bool true) (by simp [results, Tryz.results139, go_sem]) rfl ⟨rfl, ?_, ?_⟩
        · repeat (with_reducible first | exact HS2.out | refine r_o ?_ _ | refine RdAt.alloc ?_ _ | refine RdAt.drewN ?_ _ | refine RdAt.drew ?_)
        · repeat (with_reducible first | exact Upd.refl _ _ | assumption | refine u_s ?_ _ | refine Upd.alloc ?_ _ | refine Upd.drewN ?_ _ | refine Upd.drew ?_)
  · have HS2 : Hid (RdAt (w.setCell ⟨r, 4, none⟩ (.int .i64 ((p.behind : Int) * 10 + (key - 48)))) r d { p with behind := Nib.nextN p.behind key }) := by
      rw [hN, if_neg (by omega)] at HS
      rw [hN, if_neg (by omega)]
      have e : ((p.behind * 10 + (key - 48).toNat : Nat) : Int) = (p.behind : Int) * 10 + (key - 48) := by omega
      rw [e] at HS
      exact HS
    generalize Nib.nextN p.behind key = NN at *
    clear hN HS hd
    rcases h5 with h5 | ⟨h5, h6⟩
    · go_enter Tryz.func139, Tryz.ntmps139
      go_wp2
      all_goals
        refine bodyPost_ret (v := .bool true) (by simp [results, Tryz.results139, go_sem]) rfl ⟨rfl, ?_, ?_⟩
        · repeat (with_reducible first | exact HS2.out | refine r_o ?_ _ | refine RdAt.alloc ?_ _ | refine RdAt.drewN ?_ _ | refine RdAt.drew ?_)
        · repeat (with_reducible first | exact Upd.refl _ _ | assumption | refine u_s ?_ _ | refine Upd.alloc ?_ _ | refine Upd.drewN ?_ _ | refine Upd.drew ?_)
    · go_enter Tryz.func139, Tryz.ntmps139
      go_wp2
      all_goals
        refine bodyPost_ret (v := .bool true) (by simp [results, Tryz.results139, go_sem]) rfl ⟨rfl, ?_, ?_⟩
        · repeat (with_reducible first | exact HS2.out | refine r_o ?_ _ | refine RdAt.alloc ?_ _ | refine RdAt.drewN ?_ _ | refine RdAt.drew ?_)
        · repeat (with_reducible first | exact Upd.refl _ _ | assumption | refine u_s ?_ _ | refine Upd.alloc ?_ _ | refine Upd.drewN ?_ _ | refine Upd.drew ?_)
theorem mTake_digitV (r d : Nat) (p : Pg) (key : Int) (w : World) (h : RdAt w r d p) (hp : p.part = 0) (hv : ¬ p.verb = 0) (hn : p.behind ≤ 99) (hd : Nib.isD p.behind key = true) :
    Calls Tryz.prog 137 #[.agg #[.pointer (some ⟨r, 0, none⟩)], .int .u8 key] w fun e w' => e = .returned (.int .i64 0) ∧ RdAt w' r d { p with behind := Nib.nextN p.behind key } ∧ Upd [r, d] w w' := by
  have H := h
  have HD : Hid (∀ ww, RdAt ww r d p → Calls Tryz.prog 139 #[.pointer (some ⟨r, 1, none⟩), .int .u8 key] ww fun e w' => e = .returned (.bool true) ∧ RdAt w' r d { p with behind := Nib.nextN p.behind key } ∧ Upd [r] ww w') := fun ww hh => mDigitV_yes r d p key ww hh hv hn hd
  obtain ⟨b0, b1, b2, b3, b4, b5, bz, bl⟩ := h.bg
  rw [hp] at b5
  clear b1 b2 b3 b4 h
  have l1 : r < w.heap.size + 1 := by omega
  generalize hp2 : ({ p with behind := Nib.nextN p.behind key } : Pg) = p2 at *
  clear hp2 hp hv hn hd
  go_enter Tryz.func137, Tryz.ntmps137
  go_wp2_with fail
  refine Calls.mono (HD.out _ (by (repeat (with_reducible first | exact H | refine RdAt.alloc ?_ _ | refine RdAt.drewN ?_ _ | refine RdAt.drew ?_ | refine r_o ?_ _)))) ?_
  rintro e w1 ⟨rfl, h1, u1⟩
  go_wp2
  go_ret
  refine ⟨rfl, ?_, ?_⟩
  · repeat (with_reducible first | exact h1 | refine r_o ?_ _ | refine RdAt.alloc ?_ _ | refine RdAt.drewN ?_ _ | refine RdAt.drew ?_)
  · repeat (with_reducible first | exact Upd.refl _ _ | refine u_s ?_ _ | refine Upd.alloc ?_ _ | refine Upd.drewN ?_ _ | refine Upd.drew ?_ | refine Upd.trans ?_ (Upd.mono u1 (by simp)))
theorem mTake_behind (r d : Nat) (p : Pg) (key O : Int) (A B : World → Prop) (T : List Nat) (w : World) (hA : A w) (fA : Firm A) (fB : Firm B) (hr : HasR A r d p) (hp : p.part = 0) (hv : ¬ p.verb = 0) (hd : Nib.isD p.behind key = false)
    (HC : GivesB 140 #[.agg #[.pointer (some ⟨r, 0, none⟩)], .int .u8 key] A B O T) :
    Calls Tryz.prog 137 #[.agg #[.pointer (some ⟨r, 0, none⟩)], .int .u8 key] w fun e w' => e = .returned (.int .i64 O) ∧ B w' ∧ Upd T w w' := by
  have H := hr w hA
  have HD : Hid (∀ ww, RdAt ww r d p → Calls Tryz.prog 139 #[.pointer (some ⟨r, 1, none⟩), .int .u8 key] ww fun e w' => e = .returned (.bool false) ∧ Below ww.heap.size ww w') := fun ww hh => mDigitV_no r d p key ww hh hv hd
  obtain ⟨b0, b1, b2, b3, b4, b5, bz, bl⟩ := H.bg
  rw [hp] at b5
  have hv' : (p.verb == 0) = false := by simp [hv]
  have hv2 : (p.verb != 0) = true := by simp [hv]
  clear b1 b2 b4 hp hv hd
  have l1 : r < w.heap.size + 1 := by omega
  go_enter Tryz.func137, Tryz.ntmps137
  go_wp2_with fail
  refine Calls.mono (HD.out _ (by (repeat (with_reducible first | exact H | refine RdAt.alloc ?_ _ | refine RdAt.drewN ?_ _ | refine RdAt.drew ?_ | refine r_o ?_ _)))) ?_
  rintro e w1 ⟨rfl, h1⟩
  obtain ⟨hc1, hf1⟩ := bcell h1
  have hz1 := h1.size
  simp at hz1
  have l2 : r < w1.heap.size := by omega
  go_wp2_with fail
  refine Calls.mono (HC.out _ (fA _ _ hA (by (repeat (with_reducible first | exact Below.refl _ _ | refine b_s ?_ _ | refine b_a ?_ _ | refine Below.drew ?_ | refine below_drewN ?_ _ | refine b_t ?_ h1))))) ?_
  rintro e w2 ⟨rfl, h2, u2⟩
  go_wp2
  go_ret
  refine ⟨rfl, ?_, ?_⟩
  · exact (fB _ _ h2 (by (repeat (with_reducible first | exact Below.refl _ _ | refine b_s ?_ _ | refine b_a ?_ _ | refine Below.drew ?_ | refine below_drewN ?_ _))))
  · repeat (with_reducible first | exact Upd.refl _ _ | refine u_s ?_ _ | refine Upd.alloc ?_ _ | refine Upd.drewN ?_ _ | refine Upd.drew ?_ | refine Upd.trans ?_ (Upd.mono u2 (by simp)) | refine Upd.below ?_ h1)
theorem mTake_partB (r d : Nat) (p : Pg) (key O : Int) (A B : World → Prop) (T : List Nat) (w : World) (hA : A w) (fA : Firm A) (fB : Firm B) (hr : HasR A r d p) (hp : ¬ p.part = 0)
    (HC : GivesB 138 #[.agg #[.pointer (some ⟨r, 0, none⟩)], .int .u8 key] A B O T) :
    Calls Tryz.prog 137 #[.agg #[.pointer (some ⟨r, 0, none⟩)], .int .u8 key] w fun e w' => e = .returned (.int .i64 O) ∧ B w' ∧ Upd T w w' := by
  have H := hr w hA
  obtain ⟨b0, b1, b2, b3, b4, b5, bz, bl⟩ := H.bg
  clear b1 b2 b3 b4
  have l1 : r < w.heap.size + 1 := by omega
  have hp' : (p.part == 0) = false := by simp [hp]
  have hp2 : (p.part != 0) = true := by simp [hp]
  clear hp
  go_enter Tryz.func137, Tryz.ntmps137
  go_wp2_with fail
  refine Calls.mono (HC.out _ (fA _ _ hA (by (repeat (with_reducible first | exact Below.refl _ _ | refine b_s ?_ _ | refine b_a ?_ _ | refine Below.drew ?_ | refine below_drewN ?_ _))))) ?_
  rintro e w2 ⟨rfl, h2, u2⟩
  go_wp2
  go_ret
  refine ⟨rfl, ?_, ?_⟩
  · exact (fB _ _ h2 (by (repeat (with_reducible first | exact Below.refl _ _ | refine b_s ?_ _ | refine b_a ?_ _ | refine Below.drew ?_ | refine below_drewN ?_ _))))
  · repeat (with_reducible first | exact Upd.refl _ _ | refine u_s ?_ _ | refine Upd.alloc ?_ _ | refine Upd.drewN ?_ _ | refine Upd.drew ?_ | refine Upd.trans ?_ (Upd.mono u2 (by simp)))
theorem mNCompleteB (r d : Nat) (p : Pg) (key O : Int) (A B : World → Prop) (T : List Nat) (w : World) (hA : A w) (fA : Firm A) (fB : Firm B) (hr : HasR A r d p) (hp : Nib.isFind p.part = true ∨ p.part = 103) (hv : ¬ p.verb = 0)
    (HC : GivesB 145 #[.pointer (some ⟨r, 0, none⟩), .int .u8 key] A B O T) :
    Calls Tryz.prog 138 #[.agg #[.pointer (some ⟨r, 0, none⟩)], .int .u8 key] w fun e w' => e = .returned (.int .i64 O) ∧ B w' ∧ Upd T w w' := by
  have H := hr w hA
  obtain ⟨b0, b1, b2, b3, b4, b5, bz, bl⟩ := H.bg
  clear b1 b2 b4
  have l1 : r < w.heap.size + 1 := by omega
  have hv' : (p.verb == 0) = false := by simp [hv]
  have hv2 : (p.verb != 0) = true := by simp [hv]
  have g2 : (p.part == 114) = false := by
    simp only [Nib.isFind, Bool.or_eq_true, beq_iff_eq] at hp
    simp; omega
  by_cases hg : p.part = 103
  · rw [hg] at b5
    clear hp hg hv
    go_enter Tryz.func138, Tryz.ntmps138
    go_wp2_with fail
    refine Calls.mono (HC.out _ (fA _ _ hA (by (repeat (with_reducible first | exact Below.refl _ _ | refine b_s ?_ _ | refine b_a ?_ _ | refine Below.drew ?_ | refine below_drewN ?_ _))))) ?_
    rintro e w2 ⟨rfl, h2, u2⟩
    go_wp2
    go_ret
    refine ⟨rfl, ?_, ?_⟩
    · exact (fB _ _ h2 (by (repeat (with_reducible first | exact Below.refl _ _ | refine b_s ?_ _ | refine b_a ?_ _ | refine Below.drew ?_ | refine below_drewN ?_ _))))
    · repeat (with_reducible first | exact Upd.refl _ _ | refine u_s ?_ _ | refine Upd.alloc ?_ _ | refine Upd.drewN ?_ _ | refine Upd.drew ?_ | refine Upd.trans ?_ (Upd.mono u2 (by simp)))
  · have g1 : (p.part == 103) = false := by simp [hg]
    clear hp hg hv
    go_enter Tryz.func138, Tryz.ntmps138
    go_wp2_with fail
    refine Calls.mono (HC.out _ (fA _ _ hA (by (repeat (with_reducible first | exact Below.refl _ _ | refine b_s ?_ _ | refine b_a ?_ _ | refine Below.drew ?_ | refine below_drewN ?_ _))))) ?_
    rintro e w2 ⟨rfl, h2, u2⟩
    go_wp2
    go_ret
    refine ⟨rfl, ?_, ?_⟩
    · exact (fB _ _ h2 (by (repeat (with_reducible first | exact Below.refl _ _ | refine b_s ?_ _ | refine b_a ?_ _ | refine Below.drew ?_ | refine below_drewN ?_ _))))
    · repeat (with_reducible first | exact Upd.refl _ _ | refine u_s ?_ _ | refine Upd.alloc ?_ _ | refine Upd.drewN ?_ _ | refine Upd.drew ?_ | refine Upd.trans ?_ (Upd.mono u2 (by simp)))
theorem mCommand_verb (r d : Nat) (p : Pg) (key : Int) (w : World) (h : RdAt w r d p) (hk : key = 100 ∨ key = 121) :
    Calls Tryz.prog 141 #[.agg #[.pointer (some ⟨r, 0, none⟩)], .int .u8 key] w fun e w' => e = .returned (.int .i64 0) ∧ RdAt w' r d { p with verb := key } ∧ Upd [r, d] w w' := by
  have H := h
  have HV : Hid (∀ ww, RdAt ww r d p → Calls Tryz.prog 143 #[.agg #[.pointer (some ⟨r, 0, none⟩)], .int .u8 key] ww fun e w' => e = .returned (.int .i64 0) ∧ RdAt w' r d { p with verb := key } ∧ Upd [r] ww w') := by
    intro ww hh
    have HS := hh.set_verb key
    have b3 := hh.bg.c3
    have bz := hh.bg.fz
    have bl := hh.bg.lt
    have l1 : r < ww.heap.size + 1 := by omega
    have HH := hh
    generalize hp2 : ({ p with verb := key } : Pg) = p2 at *
    clear hp2 H h hk
    have HS' : Hid (RdAt (ww.setCell ⟨r, 3, none⟩ (.int .u8 key)) r d p2) := HS
    clear HS hh
    go_enter Tryz.func143, Tryz.ntmps143
    go_wp2
    go_ret
    refine ⟨rfl, ?_, ?_⟩
    · repeat (with_reducible first | exact HS'.out | refine r_o ?_ _ | refine RdAt.alloc ?_ _ | refine RdAt.drewN ?_ _ | refine RdAt.drew ?_)
    · repeat (with_reducible first | exact Upd.refl _ _ | assumption | refine u_s ?_ _ | refine Upd.alloc ?_ _ | refine Upd.drewN ?_ _ | refine Upd.drew ?_)
  generalize hp2 : ({ p with verb := key } : Pg) = p2 at *
  clear hp2 h
  rcases hk with hk | hk
  · subst hk
    go_enter Tryz.func141, Tryz.ntmps141
    go_wp2_with fail
    refine Calls.mono (HV.out _ (by (repeat (with_reducible first | exact H | refine RdAt.alloc ?_ _ | refine RdAt.drewN ?_ _ | refine RdAt.drew ?_ | refine r_o ?_ _)))) ?_
    rintro e w1 ⟨rfl, h1, u1⟩
    go_wp2
    go_ret
    refine ⟨rfl, ?_, ?_⟩
    · repeat (with_reducible first | exact h1 | refine r_o ?_ _ | refine RdAt.alloc ?_ _ | refine RdAt.drewN ?_ _ | refine RdAt.drew ?_)
    · repeat (with_reducible first | exact Upd.refl _ _ | refine u_s ?_ _ | refine Upd.alloc ?_ _ | refine Upd.drewN ?_ _ | refine Upd.drew ?_ | refine Upd.trans ?_ (Upd.mono u1 (by simp)))
  · subst hk
    go_enter Tryz.func141, Tryz.ntmps141
    go_wp2_with fail
    refine Calls.mono (HV.out _ (by (repeat (with_reducible first | exact H | refine RdAt.alloc ?_ _ | refine RdAt.drewN ?_ _ | refine RdAt.drew ?_ | refine r_o ?_ _)))) ?_
    rintro e w1 ⟨rfl, h1, u1⟩
    go_wp2
    go_ret
    refine ⟨rfl, ?_, ?_⟩
    · repeat (with_reducible first | exact h1 | refine r_o ?_ _ | refine RdAt.alloc ?_ _ | refine RdAt.drewN ?_ _ | refine RdAt.drew ?_)
    · repeat (with_reducible first | exact Upd.refl _ _ | refine u_s ?_ _ | refine Upd.alloc ?_ _ | refine Upd.drewN ?_ _ | refine Upd.drew ?_ | refine Upd.trans ?_ (Upd.mono u1 (by simp)))
end Go.Proofs.YtlendfhehhacpaaGreat
