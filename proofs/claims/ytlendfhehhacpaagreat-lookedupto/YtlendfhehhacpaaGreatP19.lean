/- Joined of the texts WaysO. -/
import Derived.Test.YtlendfhehhacpaaGreatP18
set_option linter.unusedVariables false
set_option linter.unusedSimpArgs false
set_option maxRecDepth 100000
set_option maxHeartbeats 8000000
namespace Go.Proofs.YtlendfhehhacpaaGreat
open Go.RowKit
def isFnd (key : Int) : Prop := key = 102 ∨ key = 116 ∨ key = 70 ∨ key = 84
def shortOf (key : Int) : Bool := key == 116 || key == 84
theorem sShort_any (key ch : Int) (w : World) :
    Calls Tryz.prog 224 #[.agg #[.int .u8 key, .int .u8 ch]] w fun e w' => e = .returned (.bool (shortOf key)) ∧ Below w.heap.size w w' := by
  by_cases hk : key = 116
  · subst hk
    go_enter Tryz.func224, Tryz.ntmps224
    go_wp2
    all_goals
      first
        | (refine bodyPost_ret (v := .bool true) (by simp [results, Tryz.results224, go_sem]) rfl ⟨rfl, ?_⟩ <;> repeat (with_reducible first | exact Below.refl _ _ | refine b_s ?_ _ | refine b_a ?_ _ | refine Below.drew ?_ | refine below_drewN ?_ _))
  · have e : shortOf key = (key == 84) := by unfold shortOf; simp [hk]
    rw [e]
    have hb : (key == 116) = false := by simp [hk]
    go_enter Tryz.func224, Tryz.ntmps224
    go_wp2
    all_goals
      first
        | (refine bodyPost_ret (v := .bool (key == 84)) (by simp [results, Tryz.results224, go_sem]) rfl ⟨rfl, ?_⟩ <;> repeat (with_reducible first | exact Below.refl _ _ | refine b_s ?_ _ | refine b_a ?_ _ | refine Below.drew ?_ | refine below_drewN ?_ _))
theorem sGoFrom_none (s : ByteArray) (p n fr ch : Int) (v c : Bool) (w : World) :
    Calls Tryz.prog 204 #[.agg #[.int .u8 0, .int .u8 ch], .agg #[.string s, .int .i64 (p), .int .i64 (n), .bool v, .bool c], .int .i64 fr] w fun e w' => e = .returned (.tuple #[.agg #[.int .i64 (wayX (((0 : Int), (0 : Int), true))), .int .i64 (wayK (((0 : Int), (0 : Int), true)))], .bool (wayZ (((0 : Int), (0 : Int), true)))]) ∧ Below w.heap.size w w' := by
  rw [wayX_t, wayK_t, wayZ_t]
  go_enter Tryz.func204, Tryz.ntmps204
  go_wp2
  all_goals
    first
      | (refine bodyPost_ret (v := .tuple #[.agg #[.int .i64 0, .int .i64 0], .bool false]) (by simp [results, Tryz.results204, go_sem]) rfl ⟨rfl, ?_⟩ <;> repeat (with_reducible first | exact Below.refl _ _ | refine b_s ?_ _ | refine b_a ?_ _ | refine Below.drew ?_ | refine below_drewN ?_ _))
theorem sGoFrom_up (s : ByteArray) (p n fr : Nat) (v c : Bool) (key ch : Int) (w : World) (hs : s.size ≤ 1000) (hp : p ≤ s.size) (hn : n ≤ 99) (hfr : fr ≤ 2) (hfr1 : 1 ≤ fr) (hk : key = 102 ∨ key = 116) :
    Calls Tryz.prog 204 #[.agg #[.int .u8 key, .int .u8 ch], .agg #[.string s, .int .i64 (p), .int .i64 (n), .bool v, .bool c], .int .i64 fr] w fun e w' => e = .returned (.tuple #[.agg #[.int .i64 (wayX (Nib.byteWay s p key ch (max n 1) fr)), .int .i64 (wayK (Nib.byteWay s p key ch (max n 1) fr))], .bool (wayZ (Nib.byteWay s p key ch (max n 1) fr))]) ∧ Below w.heap.size w w' := by
  have HS : Hid (∀ ww, Calls Tryz.prog 238 #[.agg #[.int .u8 key, .int .u8 ch], .agg #[.string s, .int .i64 (p), .int .i64 (n), .bool v, .bool c], .int .i64 fr, .int .i64 1] ww fun e w' => e = .returned (.tuple #[.int .i64 (foI (Nib.fndU s ch (Nib.fin s p) (Nib.fin s p - (p + fr)) (max n 1) (p + fr))), .bool (foB (Nib.fndU s ch (Nib.fin s p) (Nib.fin s p - (p + fr)) (max n 1) (p + fr)))]) ∧ Below ww.heap.size ww w') := fun ww => sSeek_up s p n fr v c key ch ww hs hp hn hfr hfr1
  have HT : Hid (∀ ww, Calls Tryz.prog 224 #[.agg #[.int .u8 key, .int .u8 ch]] ww fun e w' => e = .returned (.bool (shortOf key)) ∧ Below ww.heap.size ww w') := fun ww => sShort_any key ch ww
  have HW : Hid (Nib.byteWay s p key ch (max n 1) fr = Nib.resU (if shortOf key = true then (-1) else 0) (Nib.fndU s ch (Nib.fin s p) (Nib.fin s p - (p + fr)) (max n 1) (p + fr))) := by
    rw [Hid]; unfold Nib.byteWay
    rcases hk with rfl | rfl
    · rfl
    · rfl
  have hlt : ∀ i, Nib.fndU s ch (Nib.fin s p) (Nib.fin s p - (p + fr)) (max n 1) (p + fr) = some i → i < 1000 := by
    intro i hi
    have h1 := (Nib.fndU_lt _ _ _ _ hi).2
    have h2 := Nib.fin_le hp
    omega
  generalize Nib.fndU s ch (Nib.fin s p) (Nib.fin s p - (p + fr)) (max n 1) (p + fr) = O at *
  generalize Nib.byteWay s p key ch (max n 1) fr = R at *
  cases O with
  | none =>
    have HZ : Hid (R = (0, 0, true)) := by rw [Hid, HW.out]; rfl
    clear HW hlt
    rw [HZ.out, wayX_t, wayK_t, wayZ_t]
    have HS' : Hid (∀ ww, Calls Tryz.prog 238 #[.agg #[.int .u8 key, .int .u8 ch], .agg #[.string s, .int .i64 (p), .int .i64 (n), .bool v, .bool c], .int .i64 fr, .int .i64 1] ww fun e w' => e = .returned (.tuple #[.int .i64 0, .bool false]) ∧ Below ww.heap.size ww w') := HS
    clear HS HZ
    rcases hk with rfl | rfl
    · go_enter Tryz.func204, Tryz.ntmps204
      have RB : Two (((w.alloc (.cells #[.int .u8 102, .int .u8 ch] 95)).alloc (.cells #[.string s, .int .i64 (p), .int .i64 (n), .bool v, .bool c] 206)).alloc (.cells #[.int .i64 0, .int .i64 0] 202)) (w.heap.size + 1 + 1) 0 0 := by have := Two.new ((w.alloc (.cells #[.int .u8 102, .int .u8 ch] 95)).alloc (.cells #[.string s, .int .i64 (p), .int .i64 (n), .bool v, .bool c] 206)) 0 0 202; simpa using this
      have f1 : (((w.alloc (.cells #[.int .u8 102, .int .u8 ch] 95)).alloc (.cells #[.string s, .int .i64 (p), .int .i64 (n), .bool v, .bool c] 206)).alloc (.cells #[.int .i64 0, .int .i64 0] 202)).cell? ⟨w.heap.size, 0, none⟩ = some (.int .u8 102) := memLater ((Below.refl _ _).alloc (Nat.le_refl _) _) (by simp)
      have f2 : (((w.alloc (.cells #[.int .u8 102, .int .u8 ch] 95)).alloc (.cells #[.string s, .int .i64 (p), .int .i64 (n), .bool v, .bool c] 206)).alloc (.cells #[.int .i64 0, .int .i64 0] 202)).cell? ⟨w.heap.size, 1, none⟩ = some (.int .u8 ch) := memLater ((Below.refl _ _).alloc (Nat.le_refl _) _) (by simp)
      go_wp2_with fail
      refine (HS'.out _).mono ?_
      rintro r1 w1 ⟨rfl, h1⟩
      obtain ⟨hc1, hf1⟩ := bcell h1
      have hz1 := h1.size
      (try simp at hz1)
      have RB1 : Two w1 (w.heap.size + 1 + 1) (0) (0) := (by repeat (with_reducible first | exact RB | refine t_o ?_ _ | refine Two.alloc ?_ _ | refine Two.drewN ?_ _ | refine Two.drew ?_ | refine Two.below ?_ h1))
      have RB1_0 := RB1.c0
      have RB1_1 := RB1.c1
      have RB1_z := RB1.fz
      have RB1_l := RB1.lt
      have g1 : w1.cell? ⟨w.heap.size, 0, none⟩ = some (.int .u8 102) := memLater h1 f1
      have g2 : w1.cell? ⟨w.heap.size, 1, none⟩ = some (.int .u8 ch) := memLater h1 f2
      clear hc1 hf1
      go_wp2
      all_goals
        first
          | (refine bodyPost_ret (v := .tuple #[.agg #[.int .i64 0, .int .i64 0], .bool false]) (by simp [results, Tryz.results204, go_sem, RB1_0, RB1_1, RB1_z, RB1_l]) rfl ⟨rfl, ?_⟩ <;> repeat (with_reducible first | exact Below.refl _ _ | refine b_s ?_ _ | refine b_a ?_ _ | refine Below.drew ?_ | refine below_drewN ?_ _ | refine b_t ?_ h1))
    · go_enter Tryz.func204, Tryz.ntmps204
      have RB : Two (((w.alloc (.cells #[.int .u8 116, .int .u8 ch] 95)).alloc (.cells #[.string s, .int .i64 (p), .int .i64 (n), .bool v, .bool c] 206)).alloc (.cells #[.int .i64 0, .int .i64 0] 202)) (w.heap.size + 1 + 1) 0 0 := by have := Two.new ((w.alloc (.cells #[.int .u8 116, .int .u8 ch] 95)).alloc (.cells #[.string s, .int .i64 (p), .int .i64 (n), .bool v, .bool c] 206)) 0 0 202; simpa using this
      have f1 : (((w.alloc (.cells #[.int .u8 116, .int .u8 ch] 95)).alloc (.cells #[.string s, .int .i64 (p), .int .i64 (n), .bool v, .bool c] 206)).alloc (.cells #[.int .i64 0, .int .i64 0] 202)).cell? ⟨w.heap.size, 0, none⟩ = some (.int .u8 116) := memLater ((Below.refl _ _).alloc (Nat.le_refl _) _) (by simp)
      have f2 : (((w.alloc (.cells #[.int .u8 116, .int .u8 ch] 95)).alloc (.cells #[.string s, .int .i64 (p), .int .i64 (n), .bool v, .bool c] 206)).alloc (.cells #[.int .i64 0, .int .i64 0] 202)).cell? ⟨w.heap.size, 1, none⟩ = some (.int .u8 ch) := memLater ((Below.refl _ _).alloc (Nat.le_refl _) _) (by simp)
      go_wp2_with fail
      refine (HS'.out _).mono ?_
      rintro r1 w1 ⟨rfl, h1⟩
      obtain ⟨hc1, hf1⟩ := bcell h1
      have hz1 := h1.size
      (try simp at hz1)
      have RB1 : Two w1 (w.heap.size + 1 + 1) (0) (0) := (by repeat (with_reducible first | exact RB | refine t_o ?_ _ | refine Two.alloc ?_ _ | refine Two.drewN ?_ _ | refine Two.drew ?_ | refine Two.below ?_ h1))
      have RB1_0 := RB1.c0
      have RB1_1 := RB1.c1
      have RB1_z := RB1.fz
      have RB1_l := RB1.lt
      have g1 : w1.cell? ⟨w.heap.size, 0, none⟩ = some (.int .u8 116) := memLater h1 f1
      have g2 : w1.cell? ⟨w.heap.size, 1, none⟩ = some (.int .u8 ch) := memLater h1 f2
      clear hc1 hf1
      go_wp2
      all_goals
        first
          | (refine bodyPost_ret (v := .tuple #[.agg #[.int .i64 0, .int .i64 0], .bool false]) (by simp [results, Tryz.results204, go_sem, RB1_0, RB1_1, RB1_z, RB1_l]) rfl ⟨rfl, ?_⟩ <;> repeat (with_reducible first | exact Below.refl _ _ | refine b_s ?_ _ | refine b_a ?_ _ | refine Below.drew ?_ | refine below_drewN ?_ _ | refine b_t ?_ h1))
  | some i =>
    have hi := hlt i rfl
    have HS' : Hid (∀ ww, Calls Tryz.prog 238 #[.agg #[.int .u8 key, .int .u8 ch], .agg #[.string s, .int .i64 (p), .int .i64 (n), .bool v, .bool c], .int .i64 fr, .int .i64 1] ww fun e w' => e = .returned (.tuple #[.int .i64 i, .bool true]) ∧ Below ww.heap.size ww w') := HS
    clear HS hlt
    rcases hk with rfl | rfl
    · have HZ : Hid (R = ((i : Int) + 0, 1, false)) := HW.out
      rw [HZ.out, wayX_f, wayK_f, wayZ_f, Int.add_zero]
      have HT : Hid (∀ ww, Calls Tryz.prog 224 #[.agg #[.int .u8 102, .int .u8 ch]] ww fun e w' => e = .returned (.bool false) ∧ Below ww.heap.size ww w') := HT
      clear HW HZ
      go_enter Tryz.func204, Tryz.ntmps204
      have RB : Two (((w.alloc (.cells #[.int .u8 102, .int .u8 ch] 95)).alloc (.cells #[.string s, .int .i64 (p), .int .i64 (n), .bool v, .bool c] 206)).alloc (.cells #[.int .i64 0, .int .i64 0] 202)) (w.heap.size + 1 + 1) 0 0 := by have := Two.new ((w.alloc (.cells #[.int .u8 102, .int .u8 ch] 95)).alloc (.cells #[.string s, .int .i64 (p), .int .i64 (n), .bool v, .bool c] 206)) 0 0 202; simpa using this
      have f1 : (((w.alloc (.cells #[.int .u8 102, .int .u8 ch] 95)).alloc (.cells #[.string s, .int .i64 (p), .int .i64 (n), .bool v, .bool c] 206)).alloc (.cells #[.int .i64 0, .int .i64 0] 202)).cell? ⟨w.heap.size, 0, none⟩ = some (.int .u8 102) := memLater ((Below.refl _ _).alloc (Nat.le_refl _) _) (by simp)
      have f2 : (((w.alloc (.cells #[.int .u8 102, .int .u8 ch] 95)).alloc (.cells #[.string s, .int .i64 (p), .int .i64 (n), .bool v, .bool c] 206)).alloc (.cells #[.int .i64 0, .int .i64 0] 202)).cell? ⟨w.heap.size, 1, none⟩ = some (.int .u8 ch) := memLater ((Below.refl _ _).alloc (Nat.le_refl _) _) (by simp)
      go_wp2_with fail
      refine (HS'.out _).mono ?_
      rintro r1 w1 ⟨rfl, h1⟩
      obtain ⟨hc1, hf1⟩ := bcell h1
      have hz1 := h1.size
      (try simp at hz1)
      have RB1 : Two w1 (w.heap.size + 1 + 1) (0) (0) := (by repeat (with_reducible first | exact RB | refine t_o ?_ _ | refine Two.alloc ?_ _ | refine Two.drewN ?_ _ | refine Two.drew ?_ | refine Two.below ?_ h1))
      have RB1_0 := RB1.c0
      have RB1_1 := RB1.c1
      have RB1_z := RB1.fz
      have RB1_l := RB1.lt
      have g1 : w1.cell? ⟨w.heap.size, 0, none⟩ = some (.int .u8 102) := memLater h1 f1
      have g2 : w1.cell? ⟨w.heap.size, 1, none⟩ = some (.int .u8 ch) := memLater h1 f2
      clear hc1 hf1
      go_wp2_with fail
      refine (HT.out _).mono ?_
      rintro r2 w2 ⟨rfl, h2⟩
      obtain ⟨hc2, hf2⟩ := bcell h2
      have hz2 := h2.size
      (try simp at hz2)
      have RB2 : Two w2 (w.heap.size + 1 + 1) (0) (0) := (by repeat (with_reducible first | exact RB | refine t_o ?_ _ | refine Two.alloc ?_ _ | refine Two.drewN ?_ _ | refine Two.drew ?_ | refine Two.below ?_ h2 | refine Two.below ?_ h1))
      have RB2_0 := RB2.c0
      have RB2_1 := RB2.c1
      have RB2_z := RB2.fz
      have RB2_l := RB2.lt
      clear hc2 hf2
      go_wp2
      all_goals
        first
          | (refine bodyPost_ret (v := .tuple #[.agg #[.int .i64 i, .int .i64 1], .bool true]) (by simp [results, Tryz.results204, go_sem, RB2_0, RB2_1, RB2_z, RB2_l]) rfl ⟨rfl, ?_⟩ <;> repeat (with_reducible first | exact Below.refl _ _ | refine b_s ?_ _ | refine b_a ?_ _ | refine Below.drew ?_ | refine below_drewN ?_ _ | refine b_t ?_ h2 | refine b_t ?_ h1))
    · have HZ : Hid (R = ((i : Int) + (-1), 1, false)) := HW.out
      rw [HZ.out, wayX_f, wayK_f, wayZ_f]
      have HT : Hid (∀ ww, Calls Tryz.prog 224 #[.agg #[.int .u8 116, .int .u8 ch]] ww fun e w' => e = .returned (.bool true) ∧ Below ww.heap.size ww w') := HT
      clear HW HZ
      go_enter Tryz.func204, Tryz.ntmps204
      have RB : Two (((w.alloc (.cells #[.int .u8 116, .int .u8 ch] 95)).alloc (.cells #[.string s, .int .i64 (p), .int .i64 (n), .bool v, .bool c] 206)).alloc (.cells #[.int .i64 0, .int .i64 0] 202)) (w.heap.size + 1 + 1) 0 0 := by have := Two.new ((w.alloc (.cells #[.int .u8 116, .int .u8 ch] 95)).alloc (.cells #[.string s, .int .i64 (p), .int .i64 (n), .bool v, .bool c] 206)) 0 0 202; simpa using this
      have f1 : (((w.alloc (.cells #[.int .u8 116, .int .u8 ch] 95)).alloc (.cells #[.string s, .int .i64 (p), .int .i64 (n), .bool v, .bool c] 206)).alloc (.cells #[.int .i64 0, .int .i64 0] 202)).cell? ⟨w.heap.size, 0, none⟩ = some (.int .u8 116) := memLater ((Below.refl _ _).alloc (Nat.le_refl _) _) (by simp)
      have f2 : (((w.alloc (.cells #[.int .u8 116, .int .u8 ch] 95)).alloc (.cells #[.string s, .int .i64 (p), .int .i64 (n), .bool v, .bool c] 206)).alloc (.cells #[.int .i64 0, .int .i64 0] 202)).cell? ⟨w.heap.size, 1, none⟩ = some (.int .u8 ch) := memLater ((Below.refl _ _).alloc (Nat.le_refl _) _) (by simp)
      go_wp2_with fail
      refine (HS'.out _).mono ?_
      rintro r1 w1 ⟨rfl, h1⟩
      obtain ⟨hc1, hf1⟩ := bcell h1
      have hz1 := h1.size
      (try simp at hz1)
      have RB1 : Two w1 (w.heap.size + 1 + 1) (0) (0) := (by repeat (with_reducible first | exact RB | refine t_o ?_ _ | refine Two.alloc ?_ _ | refine Two.drewN ?_ _ | refine Two.drew ?_ | refine Two.below ?_ h1))
      have RB1_0 := RB1.c0
      have RB1_1 := RB1.c1
      have RB1_z := RB1.fz
      have RB1_l := RB1.lt
      have g1 : w1.cell? ⟨w.heap.size, 0, none⟩ = some (.int .u8 116) := memLater h1 f1
      have g2 : w1.cell? ⟨w.heap.size, 1, none⟩ = some (.int .u8 ch) := memLater h1 f2
      clear hc1 hf1
      go_wp2_with fail
      refine (HT.out _).mono ?_
      rintro r2 w2 ⟨rfl, h2⟩
      obtain ⟨hc2, hf2⟩ := bcell h2
      have hz2 := h2.size
      (try simp at hz2)
      have RB2 : Two w2 (w.heap.size + 1 + 1) (0) (0) := (by repeat (with_reducible first | exact RB | refine t_o ?_ _ | refine Two.alloc ?_ _ | refine Two.drewN ?_ _ | refine Two.drew ?_ | refine Two.below ?_ h2 | refine Two.below ?_ h1))
      have RB2_0 := RB2.c0
      have RB2_1 := RB2.c1
      have RB2_z := RB2.fz
      have RB2_l := RB2.lt
      clear hc2 hf2
      go_wp2
      all_goals
        first
          | (refine bodyPost_ret (v := .tuple #[.agg #[.int .i64 ((i : Int) - 1), .int .i64 1], .bool true]) (by simp [results, Tryz.results204, go_sem, RB2_0, RB2_1, RB2_z, RB2_l]) rfl ⟨by first | rfl | (congr 1; done), ?_⟩ <;> repeat (with_reducible first | exact Below.refl _ _ | refine b_s ?_ _ | refine b_a ?_ _ | refine Below.drew ?_ | refine below_drewN ?_ _ | refine b_t ?_ h2 | refine b_t ?_ h1))
theorem sGoFrom_down (s : ByteArray) (p n fr : Nat) (v c : Bool) (key ch : Int) (w : World) (hs : s.size ≤ 1000) (hp : p ≤ s.size) (hn : n ≤ 99) (hfr : fr ≤ 2) (hfr1 : 1 ≤ fr) (hk : key = 70 ∨ key = 84) :
    Calls Tryz.prog 204 #[.agg #[.int .u8 key, .int .u8 ch], .agg #[.string s, .int .i64 (p), .int .i64 (n), .bool v, .bool c], .int .i64 fr] w fun e w' => e = .returned (.tuple #[.agg #[.int .i64 (wayX (Nib.byteWay s p key ch (max n 1) fr)), .int .i64 (wayK (Nib.byteWay s p key ch (max n 1) fr))], .bool (wayZ (Nib.byteWay s p key ch (max n 1) fr))]) ∧ Below w.heap.size w w' := by
  have HS : Hid (∀ ww, Calls Tryz.prog 238 #[.agg #[.int .u8 key, .int .u8 ch], .agg #[.string s, .int .i64 (p), .int .i64 (n), .bool v, .bool c], .int .i64 fr, .int .i64 (-1)] ww fun e w' => e = .returned (.tuple #[.int .i64 (foI (Nib.fndD s ch (Nib.beg s p) (max n 1) (p + 1 - fr))), .bool (foB (Nib.fndD s ch (Nib.beg s p) (max n 1) (p + 1 - fr)))]) ∧ Below ww.heap.size ww w') := fun ww => sSeek_down s p n fr v c key ch ww hs hp hn hfr hfr1
  have HT : Hid (∀ ww, Calls Tryz.prog 224 #[.agg #[.int .u8 key, .int .u8 ch]] ww fun e w' => e = .returned (.bool (shortOf key)) ∧ Below ww.heap.size ww w') := fun ww => sShort_any key ch ww
  have HW : Hid (Nib.byteWay s p key ch (max n 1) fr = Nib.resD (if shortOf key = true then 1 else 0) (Nib.fndD s ch (Nib.beg s p) (max n 1) (p + 1 - fr))) := by
    rw [Hid]; unfold Nib.byteWay
    rcases hk with rfl | rfl
    · rfl
    · rfl
  have hlt : ∀ i, Nib.fndD s ch (Nib.beg s p) (max n 1) (p + 1 - fr) = some i → i < 1000 := by
    intro i hi
    have h1 := (Nib.fndD_lt _ _ _ hi).2
    have h2 := Nib.fin_le hp
    omega
  generalize Nib.fndD s ch (Nib.beg s p) (max n 1) (p + 1 - fr) = O at *
  generalize Nib.byteWay s p key ch (max n 1) fr = R at *
  cases O with
  | none =>
    have HZ : Hid (R = (0, 0, true)) := by rw [Hid, HW.out]; rfl
    clear HW hlt
    rw [HZ.out, wayX_t, wayK_t, wayZ_t]
    have HS' : Hid (∀ ww, Calls Tryz.prog 238 #[.agg #[.int .u8 key, .int .u8 ch], .agg #[.string s, .int .i64 (p), .int .i64 (n), .bool v, .bool c], .int .i64 fr, .int .i64 (-1)] ww fun e w' => e = .returned (.tuple #[.int .i64 0, .bool false]) ∧ Below ww.heap.size ww w') := HS
    clear HS HZ
    rcases hk with rfl | rfl
    · go_enter Tryz.func204, Tryz.ntmps204
      have RB : Two (((w.alloc (.cells #[.int .u8 70, .int .u8 ch] 95)).alloc (.cells #[.string s, .int .i64 (p), .int .i64 (n), .bool v, .bool c] 206)).alloc (.cells #[.int .i64 0, .int .i64 0] 202)) (w.heap.size + 1 + 1) 0 0 := by have := Two.new ((w.alloc (.cells #[.int .u8 70, .int .u8 ch] 95)).alloc (.cells #[.string s, .int .i64 (p), .int .i64 (n), .bool v, .bool c] 206)) 0 0 202; simpa using this
      have f1 : (((w.alloc (.cells #[.int .u8 70, .int .u8 ch] 95)).alloc (.cells #[.string s, .int .i64 (p), .int .i64 (n), .bool v, .bool c] 206)).alloc (.cells #[.int .i64 0, .int .i64 0] 202)).cell? ⟨w.heap.size, 0, none⟩ = some (.int .u8 70) := memLater ((Below.refl _ _).alloc (Nat.le_refl _) _) (by simp)
      have f2 : (((w.alloc (.cells #[.int .u8 70, .int .u8 ch] 95)).alloc (.cells #[.string s, .int .i64 (p), .int .i64 (n), .bool v, .bool c] 206)).alloc (.cells #[.int .i64 0, .int .i64 0] 202)).cell? ⟨w.heap.size, 1, none⟩ = some (.int .u8 ch) := memLater ((Below.refl _ _).alloc (Nat.le_refl _) _) (by simp)
      go_wp2_with fail
      refine (HS'.out _).mono ?_
      rintro r1 w1 ⟨rfl, h1⟩
      obtain ⟨hc1, hf1⟩ := bcell h1
      have hz1 := h1.size
      (try simp at hz1)
      have RB1 : Two w1 (w.heap.size + 1 + 1) (0) (0) := (by repeat (with_reducible first | exact RB | refine t_o ?_ _ | refine Two.alloc ?_ _ | refine Two.drewN ?_ _ | refine Two.drew ?_ | refine Two.below ?_ h1))
      have RB1_0 := RB1.c0
      have RB1_1 := RB1.c1
      have RB1_z := RB1.fz
      have RB1_l := RB1.lt
      have g1 : w1.cell? ⟨w.heap.size, 0, none⟩ = some (.int .u8 70) := memLater h1 f1
      have g2 : w1.cell? ⟨w.heap.size, 1, none⟩ = some (.int .u8 ch) := memLater h1 f2
      clear hc1 hf1
      go_wp2
      all_goals
        first
          | (refine bodyPost_ret (v := .tuple #[.agg #[.int .i64 0, .int .i64 0], .bool false]) (by simp [results, Tryz.results204, go_sem, RB1_0, RB1_1, RB1_z, RB1_l]) rfl ⟨rfl, ?_⟩ <;> repeat (with_reducible first | exact Below.refl _ _ | refine b_s ?_ _ | refine b_a ?_ _ | refine Below.drew ?_ | refine below_drewN ?_ _ | refine b_t ?_ h1))
    · go_enter Tryz.func204, Tryz.ntmps204
      have RB : Two (((w.alloc (.cells #[.int .u8 84, .int .u8 ch] 95)).alloc (.cells #[.string s, .int .i64 (p), .int .i64 (n), .bool v, .bool c] 206)).alloc (.cells #[.int .i64 0, .int .i64 0] 202)) (w.heap.size + 1 + 1) 0 0 := by have := Two.new ((w.alloc (.cells #[.int .u8 84, .int .u8 ch] 95)).alloc (.cells #[.string s, .int .i64 (p), .int .i64 (n), .bool v, .bool c] 206)) 0 0 202; simpa using this
      have f1 : (((w.alloc (.cells #[.int .u8 84, .int .u8 ch] 95)).alloc (.cells #[.string s, .int .i64 (p), .int .i64 (n), .bool v, .bool c] 206)).alloc (.cells #[.int .i64 0, .int .i64 0] 202)).cell? ⟨w.heap.size, 0, none⟩ = some (.int .u8 84) := memLater ((Below.refl _ _).alloc (Nat.le_refl _) _) (by simp)
      have f2 : (((w.alloc (.cells #[.int .u8 84, .int .u8 ch] 95)).alloc (.cells #[.string s, .int .i64 (p), .int .i64 (n), .bool v, .bool c] 206)).alloc (.cells #[.int .i64 0, .int .i64 0] 202)).cell? ⟨w.heap.size, 1, none⟩ = some (.int .u8 ch) := memLater ((Below.refl _ _).alloc (Nat.le_refl _) _) (by simp)
      go_wp2_with fail
      refine (HS'.out _).mono ?_
      rintro r1 w1 ⟨rfl, h1⟩
      obtain ⟨hc1, hf1⟩ := bcell h1
      have hz1 := h1.size
      (try simp at hz1)
      have RB1 : Two w1 (w.heap.size + 1 + 1) (0) (0) := (by repeat (with_reducible first | exact RB | refine t_o ?_ _ | refine Two.alloc ?_ _ | refine Two.drewN ?_ _ | refine Two.drew ?_ | refine Two.below ?_ h1))
      have RB1_0 := RB1.c0
      have RB1_1 := RB1.c1
      have RB1_z := RB1.fz
      have RB1_l := RB1.lt
      have g1 : w1.cell? ⟨w.heap.size, 0, none⟩ = some (.int .u8 84) := memLater h1 f1
      have g2 : w1.cell? ⟨w.heap.size, 1, none⟩ = some (.int .u8 ch) := memLater h1 f2
      clear hc1 hf1
      go_wp2
      all_goals
        first
          | (refine bodyPost_ret (v := .tuple #[.agg #[.int .i64 0, .int .i64 0], .bool false]) (by simp [results, Tryz.results204, go_sem, RB1_0, RB1_1, RB1_z, RB1_l]) rfl ⟨rfl, ?_⟩ <;> repeat (with_reducible first | exact Below.refl _ _ | refine b_s ?_ _ | refine b_a ?_ _ | refine Below.drew ?_ | refine below_drewN ?_ _ | refine b_t ?_ h1))
  | some i =>
    have hi := hlt i rfl
    have HS' : Hid (∀ ww, Calls Tryz.prog 238 #[.agg #[.int .u8 key, .int .u8 ch], .agg #[.string s, .int .i64 (p), .int .i64 (n), .bool v, .bool c], .int .i64 fr, .int .i64 (-1)] ww fun e w' => e = .returned (.tuple #[.int .i64 i, .bool true]) ∧ Below ww.heap.size ww w') := HS
    clear HS hlt
    rcases hk with rfl | rfl
    · have HZ : Hid (R = ((i : Int) + 0, 0, false)) := HW.out
      rw [HZ.out, wayX_f, wayK_f, wayZ_f, Int.add_zero]
      have HT : Hid (∀ ww, Calls Tryz.prog 224 #[.agg #[.int .u8 70, .int .u8 ch]] ww fun e w' => e = .returned (.bool false) ∧ Below ww.heap.size ww w') := HT
      clear HW HZ
      go_enter Tryz.func204, Tryz.ntmps204
      have RB : Two (((w.alloc (.cells #[.int .u8 70, .int .u8 ch] 95)).alloc (.cells #[.string s, .int .i64 (p), .int .i64 (n), .bool v, .bool c] 206)).alloc (.cells #[.int .i64 0, .int .i64 0] 202)) (w.heap.size + 1 + 1) 0 0 := by have := Two.new ((w.alloc (.cells #[.int .u8 70, .int .u8 ch] 95)).alloc (.cells #[.string s, .int .i64 (p), .int .i64 (n), .bool v, .bool c] 206)) 0 0 202; simpa using this
      have f1 : (((w.alloc (.cells #[.int .u8 70, .int .u8 ch] 95)).alloc (.cells #[.string s, .int .i64 (p), .int .i64 (n), .bool v, .bool c] 206)).alloc (.cells #[.int .i64 0, .int .i64 0] 202)).cell? ⟨w.heap.size, 0, none⟩ = some (.int .u8 70) := memLater ((Below.refl _ _).alloc (Nat.le_refl _) _) (by simp)
      have f2 : (((w.alloc (.cells #[.int .u8 70, .int .u8 ch] 95)).alloc (.cells #[.string s, .int .i64 (p), .int .i64 (n), .bool v, .bool c] 206)).alloc (.cells #[.int .i64 0, .int .i64 0] 202)).cell? ⟨w.heap.size, 1, none⟩ = some (.int .u8 ch) := memLater ((Below.refl _ _).alloc (Nat.le_refl _) _) (by simp)
      go_wp2_with fail
      refine (HS'.out _).mono ?_
      rintro r1 w1 ⟨rfl, h1⟩
      obtain ⟨hc1, hf1⟩ := bcell h1
      have hz1 := h1.size
      (try simp at hz1)
      have RB1 : Two w1 (w.heap.size + 1 + 1) (0) (0) := (by repeat (with_reducible first | exact RB | refine t_o ?_ _ | refine Two.alloc ?_ _ | refine Two.drewN ?_ _ | refine Two.drew ?_ | refine Two.below ?_ h1))
      have RB1_0 := RB1.c0
      have RB1_1 := RB1.c1
      have RB1_z := RB1.fz
      have RB1_l := RB1.lt
      have g1 : w1.cell? ⟨w.heap.size, 0, none⟩ = some (.int .u8 70) := memLater h1 f1
      have g2 : w1.cell? ⟨w.heap.size, 1, none⟩ = some (.int .u8 ch) := memLater h1 f2
      clear hc1 hf1
      go_wp2_with fail
      refine (HT.out _).mono ?_
      rintro r2 w2 ⟨rfl, h2⟩
      obtain ⟨hc2, hf2⟩ := bcell h2
      have hz2 := h2.size
      (try simp at hz2)
      have RB2 : Two w2 (w.heap.size + 1 + 1) (0) (0) := (by repeat (with_reducible first | exact RB | refine t_o ?_ _ | refine Two.alloc ?_ _ | refine Two.drewN ?_ _ | refine Two.drew ?_ | refine Two.below ?_ h2 | refine Two.below ?_ h1))
      have RB2_0 := RB2.c0
      have RB2_1 := RB2.c1
      have RB2_z := RB2.fz
      have RB2_l := RB2.lt
      clear hc2 hf2
      go_wp2
      all_goals
        first
          | (refine bodyPost_ret (v := .tuple #[.agg #[.int .i64 i, .int .i64 0], .bool true]) (by simp [results, Tryz.results204, go_sem, RB2_0, RB2_1, RB2_z, RB2_l]) rfl ⟨rfl, ?_⟩ <;> repeat (with_reducible first | exact Below.refl _ _ | refine b_s ?_ _ | refine b_a ?_ _ | refine Below.drew ?_ | refine below_drewN ?_ _ | refine b_t ?_ h2 | refine b_t ?_ h1))
    · have HZ : Hid (R = ((i : Int) + 1, 0, false)) := HW.out
      rw [HZ.out, wayX_f, wayK_f, wayZ_f]
      have HT : Hid (∀ ww, Calls Tryz.prog 224 #[.agg #[.int .u8 84, .int .u8 ch]] ww fun e w' => e = .returned (.bool true) ∧ Below ww.heap.size ww w') := HT
      clear HW HZ
      go_enter Tryz.func204, Tryz.ntmps204
      have RB : Two (((w.alloc (.cells #[.int .u8 84, .int .u8 ch] 95)).alloc (.cells #[.string s, .int .i64 (p), .int .i64 (n), .bool v, .bool c] 206)).alloc (.cells #[.int .i64 0, .int .i64 0] 202)) (w.heap.size + 1 + 1) 0 0 := by have := Two.new ((w.alloc (.cells #[.int .u8 84, .int .u8 ch] 95)).alloc (.cells #[.string s, .int .i64 (p), .int .i64 (n), .bool v, .bool c] 206)) 0 0 202; simpa using this
      have f1 : (((w.alloc (.cells #[.int .u8 84, .int .u8 ch] 95)).alloc (.cells #[.string s, .int .i64 (p), .int .i64 (n), .bool v, .bool c] 206)).alloc (.cells #[.int .i64 0, .int .i64 0] 202)).cell? ⟨w.heap.size, 0, none⟩ = some (.int .u8 84) := memLater ((Below.refl _ _).alloc (Nat.le_refl _) _) (by simp)
      have f2 : (((w.alloc (.cells #[.int .u8 84, .int .u8 ch] 95)).alloc (.cells #[.string s, .int .i64 (p), .int .i64 (n), .bool v, .bool c] 206)).alloc (.cells #[.int .i64 0, .int .i64 0] 202)).cell? ⟨w.heap.size, 1, none⟩ = some (.int .u8 ch) := memLater ((Below.refl _ _).alloc (Nat.le_refl _) _) (by simp)
      go_wp2_with fail
      refine (HS'.out _).mono ?_
      rintro r1 w1 ⟨rfl, h1⟩
      obtain ⟨hc1, hf1⟩ := bcell h1
      have hz1 := h1.size
      (try simp at hz1)
      have RB1 : Two w1 (w.heap.size + 1 + 1) (0) (0) := (by repeat (with_reducible first | exact RB | refine t_o ?_ _ | refine Two.alloc ?_ _ | refine Two.drewN ?_ _ | refine Two.drew ?_ | refine Two.below ?_ h1))
      have RB1_0 := RB1.c0
      have RB1_1 := RB1.c1
      have RB1_z := RB1.fz
      have RB1_l := RB1.lt
      have g1 : w1.cell? ⟨w.heap.size, 0, none⟩ = some (.int .u8 84) := memLater h1 f1
      have g2 : w1.cell? ⟨w.heap.size, 1, none⟩ = some (.int .u8 ch) := memLater h1 f2
      clear hc1 hf1
      go_wp2_with fail
      refine (HT.out _).mono ?_
      rintro r2 w2 ⟨rfl, h2⟩
      obtain ⟨hc2, hf2⟩ := bcell h2
      have hz2 := h2.size
      (try simp at hz2)
      have RB2 : Two w2 (w.heap.size + 1 + 1) (0) (0) := (by repeat (with_reducible first | exact RB | refine t_o ?_ _ | refine Two.alloc ?_ _ | refine Two.drewN ?_ _ | refine Two.drew ?_ | refine Two.below ?_ h2 | refine Two.below ?_ h1))
      have RB2_0 := RB2.c0
      have RB2_1 := RB2.c1
      have RB2_z := RB2.fz
      have RB2_l := RB2.lt
      clear hc2 hf2
      go_wp2
      all_goals
        first
          | (refine bodyPost_ret (v := .tuple #[.agg #[.int .i64 ((i : Int) + 1), .int .i64 0], .bool true]) (by simp [results, Tryz.results204, go_sem, RB2_0, RB2_1, RB2_z, RB2_l]) rfl ⟨by first | rfl | (congr 1; done), ?_⟩ <;> repeat (with_reducible first | exact Below.refl _ _ | refine b_s ?_ _ | refine b_a ?_ _ | refine Below.drew ?_ | refine below_drewN ?_ _ | refine b_t ?_ h2 | refine b_t ?_ h1))
end Go.Proofs.YtlendfhehhacpaaGreat
