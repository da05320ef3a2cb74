/- Joined of the texts TextI, WaysS, WaysL. -/
import Derived.Test.YtlendfhehhacpaaGreatP25
import Derived.Test.YtlendfhehhacpaaGreatP26
import Derived.Test.YtlendfhehhacpaaGreatP27
import Derived.Test.YtlendfhehhacpaaGreatP28
import Derived.Test.YtlendfhehhacpaaGreatP29
import Derived.Test.YtlendfhehhacpaaGreatP22
import Derived.Test.YtlendfhehhacpaaGreatP23
import Derived.Test.YtlendfhehhacpaaGreatP03
set_option linter.unusedVariables false
set_option linter.unusedSimpArgs false
set_option maxRecDepth 100000
set_option maxHeartbeats 8000000
namespace Go.Proofs.YtlendfhehhacpaaGreat
open Go.RowKit
theorem tPartner_any (s : ByteArray) (p : Nat) (w : World) (hs : s.size ≤ 1000) (hp : p < s.size) (hb : Nib.prt (Nib.bt s p) ≠ 0) :
    Calls Tryz.prog 255 #[.string s, .int .i64 p] w fun e w' => e = .returned (.tuple #[.int .i64 (mtI (Nib.mtch s p)), .bool (mtB (Nib.mtch s p))]) ∧ Below w.heap.size w w' := by
  have HS : Hid (∀ ww, Calls Tryz.prog 287 #[.string s, .int .u8 (((s[p]'hp).toNat : Nat) : Int), .int .i64 p, .int .i64 0] ww fun e w' => e = .returned (.tuple #[.int .i64 (mtI (Nib.mtch s p)), .bool (mtB (Nib.mtch s p))]) ∧ Below ww.heap.size ww w') := by
    intro ww
    rw [← Nib.bt_in hp]
    have hcase : Nib.bt s p = 40 ∨ Nib.bt s p = 91 ∨ Nib.bt s p = 123 ∨ Nib.bt s p = 41 ∨ Nib.bt s p = 93 ∨ Nib.bt s p = 125 := by
      unfold Nib.prt at hb
      by_cases h1 : Nib.bt s p = 40
      · exact Or.inl h1
      by_cases h2 : Nib.bt s p = 91
      · exact Or.inr (Or.inl h2)
      by_cases h3 : Nib.bt s p = 123
      · exact Or.inr (Or.inr (Or.inl h3))
      by_cases h4 : Nib.bt s p = 41
      · exact Or.inr (Or.inr (Or.inr (Or.inl h4)))
      by_cases h5 : Nib.bt s p = 93
      · exact Or.inr (Or.inr (Or.inr (Or.inr (Or.inl h5))))
      by_cases h6 : Nib.bt s p = 125
      · exact Or.inr (Or.inr (Or.inr (Or.inr (Or.inr h6))))
      · rw [if_neg h1, if_neg h2, if_neg h3, if_neg h4, if_neg h5, if_neg h6] at hb
        exact absurd rfl hb
    rcases hcase with h | h | h | h | h | h
    · have e : Nib.mtch s p = Nib.mtU s 40 41 (s.size - p) ((0 : Nat) : Int) p := by unfold Nib.mtch; rw [h]; rfl
      rw [e, h]; exact tSeek_40 s p 0 ww hs hp (by omega) (Or.inr h)
    · have e : Nib.mtch s p = Nib.mtU s 91 93 (s.size - p) ((0 : Nat) : Int) p := by unfold Nib.mtch; rw [h]; rfl
      rw [e, h]; exact tSeek_91 s p 0 ww hs hp (by omega) (Or.inr h)
    · have e : Nib.mtch s p = Nib.mtU s 123 125 (s.size - p) ((0 : Nat) : Int) p := by unfold Nib.mtch; rw [h]; rfl
      rw [e, h]; exact tSeek_123 s p 0 ww hs hp (by omega) (Or.inr h)
    · have e : Nib.mtch s p = Nib.mtD s 41 40 ((0 : Nat) : Int) (p + 1) := by unfold Nib.mtch; rw [h]; rfl
      rw [e, h]; exact tSeek_41 s p 0 ww hs hp (by omega) (Or.inr h)
    · have e : Nib.mtch s p = Nib.mtD s 93 91 ((0 : Nat) : Int) (p + 1) := by unfold Nib.mtch; rw [h]; rfl
      rw [e, h]; exact tSeek_93 s p 0 ww hs hp (by omega) (Or.inr h)
    · have e : Nib.mtch s p = Nib.mtD s 125 123 ((0 : Nat) : Int) (p + 1) := by unfold Nib.mtch; rw [h]; rfl
      rw [e, h]; exact tSeek_125 s p 0 ww hs hp (by omega) (Or.inr h)
  generalize Nib.mtch s p = M at *
  generalize mtI M = X at *
  generalize mtB M = Z at *
  clear hb
  go_enter Tryz.func255, Tryz.ntmps255
  go_wp2_with fail
  refine (HS.out _).mono ?_
  rintro e w1 ⟨rfl, h1⟩
  obtain ⟨hc1, hf1⟩ := bcell h1
  have hz1 := h1.size
  try simp at hz1
  go_wp2
  all_goals
    first
      | (refine bodyPost_ret (v := .tuple #[.int .i64 X, .bool Z]) (by simp [results, Tryz.results255, go_sem]) rfl ⟨rfl, ?_⟩ <;> repeat (with_reducible first | exact Below.refl _ _ | refine b_s ?_ _ | refine b_a ?_ _ | refine Below.drew ?_ | refine below_drewN ?_ _ | refine b_t ?_ h1))
def brkAt (s : ByteArray) (p : Nat) : Int := if Nib.up (Nib.nobr s) (Nib.fin s p) p < Nib.fin s p then ((Nib.up (Nib.nobr s) (Nib.fin s p) p : Nat) : Int) - p else -1
theorem sToPartner_gen (s : ByteArray) (p n : Nat) (v c : Bool) (w : World) (hs : s.size ≤ 1000) (hp : p ≤ s.size)
    (HA : Hid (∀ ww, Calls Tryz.prog 254 #[.string (s.extract p (Nib.fin s p)), .string ⟨#[40, 41, 91, 93, 123, 125]⟩] ww fun e w' => e = .returned (.int .i64 (brkAt s p)) ∧ Below ww.heap.size ww w')) :
    Calls Tryz.prog 212 #[.agg #[.string s, .int .i64 (p), .int .i64 (n), .bool v, .bool c]] w fun e w' => e = .returned (.tuple #[.agg #[.int .i64 (wayX (Nib.pairWay s p)), .int .i64 (wayK (Nib.pairWay s p))], .bool (wayZ (Nib.pairWay s p))]) ∧ Below w.heap.size w w' := by
  have HL : Hid (∀ ww, Calls Tryz.prog 239 #[.agg #[.string s, .int .i64 (p), .int .i64 (n), .bool v, .bool c]] ww fun e w' => e = .returned (.agg #[.int .i64 (Nib.beg s p), .int .i64 (Nib.fin s p)]) ∧ Below ww.heap.size ww w') := fun ww => sLine_any s p n v c p ww hs rfl hp
  have hfl := Nib.fin_le hp
  have hfg := Nib.fin_ge s p
  have hug : p ≤ Nib.up (Nib.nobr s) (Nib.fin s p) p := Nib.up_ge _ _ _
  have hx0 := ix1 (Nib.beg s p) (Nib.fin s p)
  by_cases hb : Nib.up (Nib.nobr s) (Nib.fin s p) p < Nib.fin s p
  · have hnb : Nib.prt (Nib.bt s (Nib.up (Nib.nobr s) (Nib.fin s p) p)) ≠ 0 := by
      have h := Nib.up_end (c := Nib.nobr s) (n := Nib.fin s p) (p := p) hb
      generalize Nib.up (Nib.nobr s) (Nib.fin s p) p = U at *
      unfold Nib.nobr at h
      simpa using h
    have HP : Hid (∀ ww, Calls Tryz.prog 255 #[.string s, .int .i64 (Nib.up (Nib.nobr s) (Nib.fin s p) p : Nat)] ww fun e w' => e = .returned (.tuple #[.int .i64 (mtI (Nib.mtch s (Nib.up (Nib.nobr s) (Nib.fin s p) p))), .bool (mtB (Nib.mtch s (Nib.up (Nib.nobr s) (Nib.fin s p) p)))]) ∧ Below ww.heap.size ww w') := fun ww => tPartner_any s _ ww hs (by omega) hnb
    have HW : Hid (Nib.pairWay s p = (Nib.mtch s (Nib.up (Nib.nobr s) (Nib.fin s p) p), 1, decide (Nib.mtch s (Nib.up (Nib.nobr s) (Nib.fin s p) p) < 0))) := by rw [Hid]; unfold Nib.pairWay; rw [if_pos hb]
    have eb : brkAt s p = ((Nib.up (Nib.nobr s) (Nib.fin s p) p : Nat) : Int) - p := by unfold brkAt; rw [if_pos hb]
    rw [eb] at HA
    clear eb hnb
    generalize Nib.pairWay s p = R at *
    generalize Nib.up (Nib.nobr s) (Nib.fin s p) p = U at *
    generalize Nib.mtch s U = M at *
    generalize hF : Nib.fin s p = E at *
    clear hF
    generalize Nib.beg s p = B at *
    have hup : (p : Int) + ((U : Int) - p) = (U : Int) := by omega
    have hge0 : ¬ ((U : Int) - p) < 0 := by omega
    by_cases hM : M < 0
    · have HZ : Hid (R = (M, 1, true)) := by rw [Hid, HW.out, decide_eq_true hM]
      have e1 : mtI M = 0 := by unfold mtI; rw [if_pos hM]
      have e2 : mtB M = false := by unfold mtB; rw [decide_eq_false (by omega)]
      rw [e1, e2] at HP
      rw [HZ.out, wayX_t, wayK_t, wayZ_t]
      clear HW HZ e1 e2
      go_enter Tryz.func212, Tryz.ntmps212
      have F : Five ((w.alloc (.cells #[.string s, .int .i64 (p), .int .i64 (n), .bool v, .bool c] 206)).alloc (.cells #[.int .i64 0, .int .i64 0] 202)) w.heap.size s p n v c := Five.alloc (Five.new _ _ _ _ _ _ _) _
      have RB : Two ((w.alloc (.cells #[.string s, .int .i64 (p), .int .i64 (n), .bool v, .bool c] 206)).alloc (.cells #[.int .i64 0, .int .i64 0] 202)) (w.heap.size + 1) 0 0 := by have := Two.new (w.alloc (.cells #[.string s, .int .i64 (p), .int .i64 (n), .bool v, .bool c] 206)) 0 0 202; simpa using this
      go_wp2_with fail
      refine (HL.out _).mono ?_
      rintro r1 w1 ⟨rfl, h1⟩
      obtain ⟨hc1, hf1⟩ := bcell h1
      have hz1 := h1.size
      (try simp at hz1)
      have F1 : Five w1 (w.heap.size) s p n v c := (by repeat (with_reducible first | exact F | refine f_o ?_ _ | refine Five.alloc ?_ _ | refine Five.drewN ?_ _ | refine Five.drew ?_ | refine Five.below ?_ h1))
      have F1_0 := F1.c0
      have F1_1 := F1.c1
      have F1_2 := F1.c2
      have F1_3 := F1.c3
      have F1_4 := F1.c4
      have F1_z := F1.fz
      have F1_l := F1.lt
      have RB1 : Two w1 (w.heap.size + 1) (0) (0) := (by repeat (with_reducible first | exact RB | refine t_o ?_ _ | refine Two.alloc ?_ _ | refine Two.drewN ?_ _ | refine Two.drew ?_ | refine Two.below ?_ h1))
      have RB1_0 := RB1.c0
      have RB1_1 := RB1.c1
      have RB1_z := RB1.fz
      have RB1_l := RB1.lt
      clear hc1 hf1
      go_wp2_with fail
      refine (HA.out _).mono ?_
      rintro r2 w2 ⟨rfl, h2⟩
      obtain ⟨hc2, hf2⟩ := bcell h2
      have hz2 := h2.size
      (try simp at hz2)
      have F2 : Five w2 (w.heap.size) s p n v c := (by repeat (with_reducible first | exact F | refine f_o ?_ _ | refine Five.alloc ?_ _ | refine Five.drewN ?_ _ | refine Five.drew ?_ | refine Five.below ?_ h2 | refine Five.below ?_ h1))
      have F2_0 := F2.c0
      have F2_1 := F2.c1
      have F2_2 := F2.c2
      have F2_3 := F2.c3
      have F2_4 := F2.c4
      have F2_z := F2.fz
      have F2_l := F2.lt
      have RB2 : Two w2 (w.heap.size + 1) (0) (0) := (by repeat (with_reducible first | exact RB | refine t_o ?_ _ | refine Two.alloc ?_ _ | refine Two.drewN ?_ _ | refine Two.drew ?_ | refine Two.below ?_ h2 | refine Two.below ?_ h1))
      have RB2_0 := RB2.c0
      have RB2_1 := RB2.c1
      have RB2_z := RB2.fz
      have RB2_l := RB2.lt
      clear hc2 hf2
      go_wp2_with fail
      refine (HP.out _).mono ?_
      rintro r3 w3 ⟨rfl, h3⟩
      obtain ⟨hc3, hf3⟩ := bcell h3
      have hz3 := h3.size
      (try simp at hz3)
      have RB3 : Two w3 (w.heap.size + 1) (0) (0) := (by repeat (with_reducible first | exact RB | refine t_o ?_ _ | refine Two.alloc ?_ _ | refine Two.drewN ?_ _ | refine Two.drew ?_ | refine Two.below ?_ h3 | refine Two.below ?_ h2 | refine Two.below ?_ h1))
      have RB3_0 := RB3.c0
      have RB3_1 := RB3.c1
      have RB3_z := RB3.fz
      have RB3_l := RB3.lt
      clear hc3 hf3
      go_wp2
      all_goals
        first
          | (refine bodyPost_ret (v := .tuple #[.agg #[.int .i64 0, .int .i64 0], .bool false]) (by simp [results, Tryz.results212, go_sem, RB3_0, RB3_1, RB3_z, RB3_l]) rfl ⟨rfl, ?_⟩ <;> repeat (with_reducible first | exact Below.refl _ _ | refine b_s ?_ _ | refine b_a ?_ _ | refine Below.drew ?_ | refine below_drewN ?_ _ | refine b_t ?_ h3 | refine b_t ?_ h2 | refine b_t ?_ h1))
    · have HZ : Hid (R = (M, 1, false)) := by rw [Hid, HW.out, decide_eq_false hM]
      have e1 : mtI M = M := by unfold mtI; rw [if_neg hM]
      have e2 : mtB M = true := by unfold mtB; rw [decide_eq_true (by omega)]
      rw [e1, e2] at HP
      rw [HZ.out, wayX_f, wayK_f, wayZ_f]
      clear HW HZ e1 e2
      go_enter Tryz.func212, Tryz.ntmps212
      have F : Five ((w.alloc (.cells #[.string s, .int .i64 (p), .int .i64 (n), .bool v, .bool c] 206)).alloc (.cells #[.int .i64 0, .int .i64 0] 202)) w.heap.size s p n v c := Five.alloc (Five.new _ _ _ _ _ _ _) _
      have RB : Two ((w.alloc (.cells #[.string s, .int .i64 (p), .int .i64 (n), .bool v, .bool c] 206)).alloc (.cells #[.int .i64 0, .int .i64 0] 202)) (w.heap.size + 1) 0 0 := by have := Two.new (w.alloc (.cells #[.string s, .int .i64 (p), .int .i64 (n), .bool v, .bool c] 206)) 0 0 202; simpa using this
      go_wp2_with fail
      refine (HL.out _).mono ?_
      rintro r1 w1 ⟨rfl, h1⟩
      obtain ⟨hc1, hf1⟩ := bcell h1
      have hz1 := h1.size
      (try simp at hz1)
      have F1 : Five w1 (w.heap.size) s p n v c := (by repeat (with_reducible first | exact F | refine f_o ?_ _ | refine Five.alloc ?_ _ | refine Five.drewN ?_ _ | refine Five.drew ?_ | refine Five.below ?_ h1))
      have F1_0 := F1.c0
      have F1_1 := F1.c1
      have F1_2 := F1.c2
      have F1_3 := F1.c3
      have F1_4 := F1.c4
      have F1_z := F1.fz
      have F1_l := F1.lt
      have RB1 : Two w1 (w.heap.size + 1) (0) (0) := (by repeat (with_reducible first | exact RB | refine t_o ?_ _ | refine Two.alloc ?_ _ | refine Two.drewN ?_ _ | refine Two.drew ?_ | refine Two.below ?_ h1))
      have RB1_0 := RB1.c0
      have RB1_1 := RB1.c1
      have RB1_z := RB1.fz
      have RB1_l := RB1.lt
      clear hc1 hf1
      go_wp2_with fail
      refine (HA.out _).mono ?_
      rintro r2 w2 ⟨rfl, h2⟩
      obtain ⟨hc2, hf2⟩ := bcell h2
      have hz2 := h2.size
      (try simp at hz2)
      have F2 : Five w2 (w.heap.size) s p n v c := (by repeat (with_reducible first | exact F | refine f_o ?_ _ | refine Five.alloc ?_ _ | refine Five.drewN ?_ _ | refine Five.drew ?_ | refine Five.below ?_ h2 | refine Five.below ?_ h1))
      have F2_0 := F2.c0
      have F2_1 := F2.c1
      have F2_2 := F2.c2
      have F2_3 := F2.c3
      have F2_4 := F2.c4
      have F2_z := F2.fz
      have F2_l := F2.lt
      have RB2 : Two w2 (w.heap.size + 1) (0) (0) := (by repeat (with_reducible first | exact RB | refine t_o ?_ _ | refine Two.alloc ?_ _ | refine Two.drewN ?_ _ | refine Two.drew ?_ | refine Two.below ?_ h2 | refine Two.below ?_ h1))
      have RB2_0 := RB2.c0
      have RB2_1 := RB2.c1
      have RB2_z := RB2.fz
      have RB2_l := RB2.lt
      clear hc2 hf2
      go_wp2_with fail
      refine (HP.out _).mono ?_
      rintro r3 w3 ⟨rfl, h3⟩
      obtain ⟨hc3, hf3⟩ := bcell h3
      have hz3 := h3.size
      (try simp at hz3)
      have RB3 : Two w3 (w.heap.size + 1) (0) (0) := (by repeat (with_reducible first | exact RB | refine t_o ?_ _ | refine Two.alloc ?_ _ | refine Two.drewN ?_ _ | refine Two.drew ?_ | refine Two.below ?_ h3 | refine Two.below ?_ h2 | refine Two.below ?_ h1))
      have RB3_0 := RB3.c0
      have RB3_1 := RB3.c1
      have RB3_z := RB3.fz
      have RB3_l := RB3.lt
      clear hc3 hf3
      go_wp2
      all_goals
        first
          | (refine bodyPost_ret (v := .tuple #[.agg #[.int .i64 M, .int .i64 1], .bool true]) (by simp [results, Tryz.results212, go_sem, RB3_0, RB3_1, RB3_z, RB3_l]) rfl ⟨rfl, ?_⟩ <;> repeat (with_reducible first | exact Below.refl _ _ | refine b_s ?_ _ | refine b_a ?_ _ | refine Below.drew ?_ | refine below_drewN ?_ _ | refine b_t ?_ h3 | refine b_t ?_ h2 | refine b_t ?_ h1))
  · have HW : Hid (Nib.pairWay s p = (0, 0, true)) := by rw [Hid]; unfold Nib.pairWay; rw [if_neg hb]
    have eb : brkAt s p = -1 := by unfold brkAt; rw [if_neg hb]
    rw [eb] at HA
    rw [HW.out, wayX_t, wayK_t, wayZ_t]
    clear eb HW hb hug
    generalize hF : Nib.fin s p = E at *
    clear hF
    generalize Nib.beg s p = B at *
    go_enter Tryz.func212, Tryz.ntmps212
    have F : Five ((w.alloc (.cells #[.string s, .int .i64 (p), .int .i64 (n), .bool v, .bool c] 206)).alloc (.cells #[.int .i64 0, .int .i64 0] 202)) w.heap.size s p n v c := Five.alloc (Five.new _ _ _ _ _ _ _) _
    have RB : Two ((w.alloc (.cells #[.string s, .int .i64 (p), .int .i64 (n), .bool v, .bool c] 206)).alloc (.cells #[.int .i64 0, .int .i64 0] 202)) (w.heap.size + 1) 0 0 := by have := Two.new (w.alloc (.cells #[.string s, .int .i64 (p), .int .i64 (n), .bool v, .bool c] 206)) 0 0 202; simpa using this
    go_wp2_with fail
    refine (HL.out _).mono ?_
    rintro r1 w1 ⟨rfl, h1⟩
    obtain ⟨hc1, hf1⟩ := bcell h1
    have hz1 := h1.size
    (try simp at hz1)
    have F1 : Five w1 (w.heap.size) s p n v c := (by repeat (with_reducible first | exact F | refine f_o ?_ _ | refine Five.alloc ?_ _ | refine Five.drewN ?_ _ | refine Five.drew ?_ | refine Five.below ?_ h1))
    have F1_0 := F1.c0
    have F1_1 := F1.c1
    have F1_2 := F1.c2
    have F1_3 := F1.c3
    have F1_4 := F1.c4
    have F1_z := F1.fz
    have F1_l := F1.lt
    have RB1 : Two w1 (w.heap.size + 1) (0) (0) := (by repeat (with_reducible first | exact RB | refine t_o ?_ _ | refine Two.alloc ?_ _ | refine Two.drewN ?_ _ | refine Two.drew ?_ | refine Two.below ?_ h1))
    have RB1_0 := RB1.c0
    have RB1_1 := RB1.c1
    have RB1_z := RB1.fz
    have RB1_l := RB1.lt
    clear hc1 hf1
    go_wp2_with fail
    refine (HA.out _).mono ?_
    rintro r2 w2 ⟨rfl, h2⟩
    obtain ⟨hc2, hf2⟩ := bcell h2
    have hz2 := h2.size
    (try simp at hz2)
    have F2 : Five w2 (w.heap.size) s p n v c := (by repeat (with_reducible first | exact F | refine f_o ?_ _ | refine Five.alloc ?_ _ | refine Five.drewN ?_ _ | refine Five.drew ?_ | refine Five.below ?_ h2 | refine Five.below ?_ h1))
    have F2_0 := F2.c0
    have F2_1 := F2.c1
    have F2_2 := F2.c2
    have F2_3 := F2.c3
    have F2_4 := F2.c4
    have F2_z := F2.fz
    have F2_l := F2.lt
    have RB2 : Two w2 (w.heap.size + 1) (0) (0) := (by repeat (with_reducible first | exact RB | refine t_o ?_ _ | refine Two.alloc ?_ _ | refine Two.drewN ?_ _ | refine Two.drew ?_ | refine Two.below ?_ h2 | refine Two.below ?_ h1))
    have RB2_0 := RB2.c0
    have RB2_1 := RB2.c1
    have RB2_z := RB2.fz
    have RB2_l := RB2.lt
    clear hc2 hf2
    go_wp2
    all_goals
      first
        | (refine bodyPost_ret (v := .tuple #[.agg #[.int .i64 0, .int .i64 0], .bool false]) (by simp [results, Tryz.results212, go_sem, RB2_0, RB2_1, RB2_z, RB2_l]) rfl ⟨rfl, ?_⟩ <;> repeat (with_reducible first | exact Below.refl _ _ | refine b_s ?_ _ | refine b_a ?_ _ | refine Below.drew ?_ | refine below_drewN ?_ _ | refine b_t ?_ h2 | refine b_t ?_ h1))
theorem sInkAhead_any (s : ByteArray) (q : Nat) (w : World) (hs : s.size ≤ 1000) (hq : q < s.size) :
    Calls Tryz.prog 283 #[.string s, .int .i64 q] w fun e w' => e = .returned (.int .i64 (Nib.dn (Nib.bgap s) q)) ∧ Below w.heap.size w w' := by
  generalize hX : Nib.dn (Nib.bgap s) q = X
  have HX : Hid (Nib.dn (Nib.bgap s) q = X) := hX
  clear hX
  have hq' : q ≤ s.size := by omega
  have hm := Nib.lin_lt hq'
  have HL : Hid (∀ ww, Calls Tryz.prog 195 #[.string s, .int .i64 q] ww fun e w' => e = .returned (.agg #[.int .i64 (Nib.att s (Nib.lin s q)), .int .i64 (Nib.fin s (Nib.att s (Nib.lin s q)))]) ∧ Below ww.heap.size ww w') := by
    intro ww
    have := tLine_any s q q ww hs rfl hq'
    rw [Nib.fin_eq hq', Nib.beg_eq hq'] at this
    exact this
  go_enter Tryz.func283, Tryz.ntmps283
  go_wp2_with fail
  go_step3
  go_wp2_with fail
  refine (HL.out _).mono ?_
  rintro e w1 ⟨rfl, h1⟩
  obtain ⟨hc1, hf1⟩ := bcell h1
  have hz1 := h1.size
  try simp at hz1
  go_wp2
  go_step3
  go_wp2
  go_loopg [1, 6] (Nib.lin s q + 1) (fun g pl mo wr => (∃ j pv : Nat, j < Nib.lns s ∧ g = j + 1 ∧ pl = .int .i64 pv ∧ pv < s.size ∧ Nib.att s j ≤ pv ∧ pv ≤ Nib.fin s (Nib.att s j) ∧ Hid (Nib.dn (Nib.bgap s) pv = X) ∧ mo = .bool true ∧ Two wr w1.heap.size (Nib.att s j) (Nib.fin s (Nib.att s j)) ∧ Below w.heap.size w wr) ∨ (pl = .int .i64 (-1) ∧ Hid (X = 0) ∧ mo = .bool false ∧ Below w.heap.size w wr))
  case atStart =>
    refine Or.inl ⟨Nib.lin s q, q, hm, rfl, rfl, hq, ?_, ?_, HX, rfl, Two.new _ _ _ _, ?_⟩
    · rw [← Nib.beg_eq hq']; exact Nib.beg_le s q
    · rw [← Nib.fin_eq hq']; exact Nib.fin_ge s q
    · repeat (with_reducible first | exact Below.refl _ _ | refine b_s ?_ _ | refine b_a ?_ _ | refine Below.drew ?_ | refine below_drewN ?_ _ | refine b_t ?_ h1)
  case round =>
    rcases hrel with ⟨j, pv, hj, hg, rfl, hps, hpa, hpf, hu, rfl, T, hB⟩ | ⟨rfl, HZ, rfl, hB⟩
    · have t0 := (T).c0
      have t1 := (T).c1
      have tz := (T).fz
      have tl := (T).lt
      have HE1 : Hid (∀ ww, Calls Tryz.prog 185 #[.agg #[.int .i64 (Nib.att s j), .int .i64 (Nib.fin s (Nib.att s j))]] ww fun e w' => e = .returned (.bool (Nib.emp s (Nib.att s j))) ∧ Below ww.heap.size ww w') := by
        intro ww; rw [Nib.emp_att hj]; exact tIsEmpty_any _ _ ww
      cases hem : Nib.emp s (Nib.att s j) with
      | true =>
        rw [hem] at HE1
        have HZ : Hid (X = pv) := by
          have h9 := hem
          rw [Nib.emp_att hj] at h9
          simp only [beq_iff_eq] at h9
          have e : pv = Nib.att s j := by omega
          rw [Hid, ← hu.out, Nib.bgap_emp (by rw [e]; exact hem)]
        clear hem hu
        go_wp2_with fail
        refine (HE1.out _).mono ?_
        rintro r2 w2 ⟨rfl, h2⟩
        obtain ⟨hc2, hf2⟩ := bcell h2
        have hz2 := h2.size
        (try simp at hz2)
        have T2 : Two w2 (w1.heap.size) (Nib.att s j) (Nib.fin s (Nib.att s j)) := (by repeat (with_reducible first | exact T | refine t_o ?_ _ | refine Two.alloc ?_ _ | refine Two.drewN ?_ _ | refine Two.drew ?_ | refine Two.below ?_ h2))
        have T2_0 := T2.c0
        have T2_1 := T2.c1
        have T2_z := T2.fz
        have T2_l := T2.lt
        go_wp2
        (try rw [Exit.noGoto_ret])
        all_goals
          first
            | (refine bodyPost_ret (v := .int .i64 pv) (by simp [results, Tryz.results283, go_sem]) rfl ⟨ret_int (by rw [HZ.out]), ?_⟩ <;> repeat (with_reducible first | exact Below.refl _ _ | refine b_s ?_ _ | refine b_a ?_ _ | refine Below.drew ?_ | refine below_drewN ?_ _ | refine b_t ?_ h2 | refine b_t ?_ hB))
      | false =>
        rw [hem] at HE1
        have hlin := Nib.emp_att_ne hj hem
        have HEM : Hid (Nib.emp s (Nib.att s j) = false) := hem
        clear hem
        go_wp2_with fail
        refine (HE1.out _).mono ?_
        rintro r2 w2 ⟨rfl, h2⟩
        obtain ⟨hc2, hf2⟩ := bcell h2
        have hz2 := h2.size
        (try simp at hz2)
        have T2 : Two w2 (w1.heap.size) (Nib.att s j) (Nib.fin s (Nib.att s j)) := (by repeat (with_reducible first | exact T | refine t_o ?_ _ | refine Two.alloc ?_ _ | refine Two.drewN ?_ _ | refine Two.drew ?_ | refine Two.below ?_ h2))
        have T2_0 := T2.c0
        have T2_1 := T2.c1
        have T2_z := T2.fz
        have T2_l := T2.lt
        clear hc2 hf2
        go_wp2
        go_loopg [1] (pv + 1 - Nib.att s j) (fun g2 pl wx => ∃ k : Nat, Nib.att s j ≤ k ∧ k ≤ pv + 1 ∧ g2 = k - Nib.att s j ∧ pl = .int .i64 ((k : Int) - 1) ∧ Hid (Nib.dn (Nib.bgap s) (k - 1) = X) ∧ wx = w2)
        case atStart => exact ⟨pv + 1, by omega, Nat.le_refl _, rfl, by go_num, hu, rfl⟩
        case round =>
          clear hu
          obtain ⟨k, hk1, hk2, hk3, rfl, hu, rfl⟩ := hrel
          by_cases hlt : Nib.att s j < k
          · obtain ⟨i, rfl⟩ : ∃ i, k = i + 1 := ⟨k - 1, by omega⟩
            have e1 : ((i + 1 : Nat) : Int) - 1 = (i : Int) := by omega
            rw [e1]
            have his : i < s.size := by omega
            have hei := Nib.emp_in hj (show Nib.att s j ≤ i by omega) (show i ≤ Nib.fin s (Nib.att s j) by omega) hlin
            have HI : Hid (∀ ww, Calls Tryz.prog 247 #[.string s, .int .i64 i] ww fun e w' => e = .returned (.bool (!Nib.spc (Nib.bt s i))) ∧ w' = ww) := by
              intro ww
              have := sHasInk_any s i i ww hs rfl (by omega)
              rw [decide_eq_true his, Bool.true_and] at this
              exact this
            have hle' : ((Nib.att s j : Nat) : Int) ≤ (i : Int) := by omega
            cases hsp : Nib.spc (Nib.bt s i) with
            | false =>
              have HS : Hid (X = i) := by
                rw [Hid, ← hu.out, Nat.add_sub_cancel, Nib.bgap_ink hsp]
              rw [hsp] at HI
              clear hsp hu e1 hei
              go_wp2_with fail
              refine (HI.out _).mono ?_
              rintro e w' ⟨rfl, rfl⟩
              go_wp2
              (try rw [Exit.noGoto_ret])
              all_goals
                first
                  | (refine bodyPost_ret (v := .int .i64 i) (by simp [results, Tryz.results283, go_sem]) rfl ⟨ret_int (by rw [HS.out]), ?_⟩ <;> repeat (with_reducible first | exact Below.refl _ _ | refine b_s ?_ _ | refine b_a ?_ _ | refine Below.drew ?_ | refine below_drewN ?_ _ | refine b_t ?_ h2 | refine b_t ?_ hB))
            | true =>
              have HS : Hid (Nib.dn (Nib.bgap s) (i - 1) = X) := by
                rw [Hid, ← hu.out, Nat.add_sub_cancel, Nib.bgap_go hsp hei]
              rw [hsp] at HI
              clear hsp hu e1 hei
              go_wp2_with fail
              refine (HI.out _).mono ?_
              rintro e w' ⟨rfl, rfl⟩
              go_wp2
              go_roundg (i - Nib.att s j)
              case measure => omega
              case rel => exact ⟨i, by omega, by omega, rfl, by go_num, HS, rfl⟩
          · have ek : k = Nib.att s j := by omega
            subst ek
            have hge : ¬ ((Nib.att s j : Nat) : Int) ≤ ((Nib.att s j : Nat) : Int) - 1 := by omega
            by_cases h0 : 0 < j
            · have hbes : Nib.fin s (Nib.att s (j - 1)) + 1 = Nib.att s j := by
                obtain ⟨i, rfl⟩ : ∃ i, j = i + 1 := ⟨j - 1, by omega⟩
                rfl
              have HBs : Hid (∀ ww, Calls Tryz.prog 223 #[.string s, .agg #[.int .i64 (Nib.att s j), .int .i64 (Nib.fin s (Nib.att s j))], .int .i64 (-1)] ww fun e w' => e = .returned (.tuple #[.agg #[.int .i64 (Nib.att s (j - 1)), .int .i64 (Nib.fin s (Nib.att s (j - 1)))], .bool true]) ∧ Below ww.heap.size ww w') := fun ww => tBeside_up s _ _ _ j ww hs rfl hj rfl h0
              have HQ : Hid (Nib.fin s (Nib.att s (j - 1)) + 1 = Nib.att s j) := hbes
              clear hbes
              go_wp2_with fail
              refine (HBs.out _).mono ?_
              rintro r3 w3 ⟨rfl, h3⟩
              obtain ⟨hc3, hf3⟩ := bcell h3
              have hz3 := h3.size
              (try simp at hz3)
              have T23 : Two w3 (w1.heap.size) (Nib.att s j) (Nib.fin s (Nib.att s j)) := (by repeat (with_reducible first | exact T2 | refine t_o ?_ _ | refine Two.alloc ?_ _ | refine Two.drewN ?_ _ | refine Two.drew ?_ | refine Two.below ?_ h3))
              have T23_0 := T23.c0
              have T23_1 := T23.c1
              have T23_z := T23.fz
              have T23_l := T23.lt
              clear hc3 hf3
              go_wp2
              have hq9 := HQ.out
              go_roundg j
              case measure => omega
              case rel =>
                refine Or.inl ⟨j - 1, Nib.att s j - 1, by omega, by omega, by congr 1; omega, by omega, ?_, by omega, hu, rfl, Two.set1 (Two.set0 T23 _) _, ?_⟩
                · have := Nib.fin_ge s (Nib.att s (j - 1)); omega
                · repeat (with_reducible first | exact Below.refl _ _ | refine b_s ?_ _ | refine b_a ?_ _ | refine Below.drew ?_ | refine below_drewN ?_ _ | refine b_t ?_ h3 | refine b_t ?_ h2 | refine b_t ?_ hB)
            · have e0 : j = 0 := by omega
              have ea : Nib.att s j = 0 := by rw [e0]; rfl
              have HZ : Hid (X = 0) := by rw [Hid, ← hu.out, ea]; rfl
              have HBs : Hid (∀ ww, Calls Tryz.prog 223 #[.string s, .agg #[.int .i64 (Nib.att s j), .int .i64 (Nib.fin s (Nib.att s j))], .int .i64 (-1)] ww fun e w' => e = .returned (.tuple #[.agg #[.int .i64 (0), .int .i64 (0)], .bool false]) ∧ Below ww.heap.size ww w') := fun ww => tBeside_none s _ _ _ ww hs (Or.inr rfl) (fun h => by omega) (fun _ => by omega)
              have HA : Hid (Nib.att s j = 0) := ea
              clear ea e0
              go_wp2_with fail
              refine (HBs.out _).mono ?_
              rintro r3 w3 ⟨rfl, h3⟩
              obtain ⟨hc3, hf3⟩ := bcell h3
              have hz3 := h3.size
              (try simp at hz3)
              have T23 : Two w3 (w1.heap.size) (Nib.att s j) (Nib.fin s (Nib.att s j)) := (by repeat (with_reducible first | exact T2 | refine t_o ?_ _ | refine Two.alloc ?_ _ | refine Two.drewN ?_ _ | refine Two.drew ?_ | refine Two.below ?_ h3))
              have T23_0 := T23.c0
              have T23_1 := T23.c1
              have T23_z := T23.fz
              have T23_l := T23.lt
              clear hc3 hf3
              go_wp2
              have ha9 := HA.out
              go_roundg 0
              case measure => omega
              case rel =>
                refine Or.inr ⟨by congr 1; omega, HZ, rfl, ?_⟩
                repeat (with_reducible first | exact Below.refl _ _ | refine b_s ?_ _ | refine b_a ?_ _ | refine Below.drew ?_ | refine below_drewN ?_ _ | refine b_t ?_ h3 | refine b_t ?_ h2 | refine b_t ?_ hB)
    · go_wp2
      (try rw [Exit.noGoto_ret])
      all_goals
        first
          | (refine bodyPost_ret (v := .int .i64 0) (by simp [results, Tryz.results283, go_sem]) rfl ⟨ret_int (by rw [HZ.out]; rfl), ?_⟩ <;> repeat (with_reducible first | exact Below.refl _ _ | refine b_s ?_ _ | refine b_a ?_ _ | refine Below.drew ?_ | refine below_drewN ?_ _ | refine b_t ?_ hB))
end Go.Proofs.YtlendfhehhacpaaGreat
