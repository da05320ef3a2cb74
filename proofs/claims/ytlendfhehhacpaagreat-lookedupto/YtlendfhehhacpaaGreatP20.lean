/- Joined of the texts WaysP. -/
import Derived.Test.YtlendfhehhacpaaGreatP19
import Derived.Test.YtlendfhehhacpaaGreatP02
set_option linter.unusedVariables false
set_option linter.unusedSimpArgs false
set_option maxRecDepth 100000
set_option maxHeartbeats 8000000
namespace Go.Proofs.YtlendfhehhacpaaGreat
open Go.RowKit
theorem sGoFrom_any (s : ByteArray) (p n fr : Nat) (v c : Bool) (key ch : Int) (w : World) (hs : s.size ≤ 1000) (hp : p ≤ s.size) (hn : n ≤ 99) (hfr : fr ≤ 2) (hfr1 : 1 ≤ fr) (hk : isFnd key) :
    Calls Tryz.prog 204 #[.agg #[.int .u8 key, .int .u8 ch], .agg #[.string s, .int .i64 (p), .int .i64 (n), .bool v, .bool c], .int .i64 fr] w fun e w' => e = .returned (.tuple #[.agg #[.int .i64 (wayX (Nib.byteWay s p key ch (max n 1) fr)), .int .i64 (wayK (Nib.byteWay s p key ch (max n 1) fr))], .bool (wayZ (Nib.byteWay s p key ch (max n 1) fr))]) ∧ Below w.heap.size w w' := by
  rcases hk with h | h | h | h
  · exact sGoFrom_up s p n fr v c key ch w hs hp hn hfr hfr1 (Or.inl h)
  · exact sGoFrom_up s p n fr v c key ch w hs hp hn hfr hfr1 (Or.inr h)
  · exact sGoFrom_down s p n fr v c key ch w hs hp hn hfr hfr1 (Or.inl h)
  · exact sGoFrom_down s p n fr v c key ch w hs hp hn hfr hfr1 (Or.inr h)
theorem sFindGo_gen (s : ByteArray) (p n : Int) (v c : Bool) (key ch : Int) (w : World) (R : Int × Int × Bool)
    (HG : Hid (∀ ww, Calls Tryz.prog 204 #[.agg #[.int .u8 key, .int .u8 ch], .agg #[.string s, .int .i64 (p), .int .i64 (n), .bool v, .bool c], .int .i64 1] ww fun e w' => e = .returned (.tuple #[.agg #[.int .i64 (wayX (R)), .int .i64 (wayK (R))], .bool (wayZ (R))]) ∧ Below ww.heap.size ww w')) :
    Calls Tryz.prog 167 #[.agg #[.int .u8 key, .int .u8 ch], .agg #[.string s, .int .i64 (p), .int .i64 (n), .bool v, .bool c]] w fun e w' => e = .returned (.tuple #[.agg #[.int .i64 (wayX (R)), .int .i64 (wayK (R))], .bool (wayZ (R))]) ∧ Below w.heap.size w w' := by
  go_enter Tryz.func167, Tryz.ntmps167
  have RB : Two (((w.alloc (.cells #[.int .u8 key, .int .u8 ch] 95)).alloc (.cells #[.string s, .int .i64 (p), .int .i64 (n), .bool v, .bool c] 206)).alloc (.cells #[.int .i64 0, .int .i64 0] 202)) (w.heap.size + 1 + 1) 0 0 := by have := Two.new ((w.alloc (.cells #[.int .u8 key, .int .u8 ch] 95)).alloc (.cells #[.string s, .int .i64 (p), .int .i64 (n), .bool v, .bool c] 206)) 0 0 202; simpa using this
  go_wp2_with fail
  refine (HG.out _).mono ?_
  rintro r1 w1 ⟨rfl, h1⟩
  obtain ⟨hc1, hf1⟩ := bcell h1
  have hz1 := h1.size
  (try simp at hz1)
  have RB1 : Two w1 (w.heap.size + 1 + 1) (0) (0) := (by repeat (with_reducible first | exact RB | refine t_o ?_ _ | refine Two.alloc ?_ _ | refine Two.drewN ?_ _ | refine Two.drew ?_ | refine Two.below ?_ h1))
  have RB1_0 := RB1.c0
  have RB1_1 := RB1.c1
  have RB1_z := RB1.fz
  have RB1_l := RB1.lt
  clear hc1 hf1
  go_wp2
  all_goals
    first
      | (refine bodyPost_ret (v := .tuple #[.agg #[.int .i64 (wayX (R)), .int .i64 (wayK (R))], .bool (wayZ (R))]) (by simp [results, Tryz.results167, go_sem, RB1_0, RB1_1, RB1_z, RB1_l]) rfl ⟨rfl, ?_⟩ <;> repeat (with_reducible first | exact Below.refl _ _ | refine b_s ?_ _ | refine b_a ?_ _ | refine Below.drew ?_ | refine below_drewN ?_ _ | refine b_t ?_ h1))
theorem sFindAgain_gen (s : ByteArray) (p n : Int) (v c : Bool) (key ch : Int) (w : World) (R : Int × Int × Bool)
    (HG : Hid (∀ ww, Calls Tryz.prog 204 #[.agg #[.int .u8 key, .int .u8 ch], .agg #[.string s, .int .i64 (p), .int .i64 (n), .bool v, .bool c], .int .i64 (if shortOf key = true then 2 else 1)] ww fun e w' => e = .returned (.tuple #[.agg #[.int .i64 (wayX (R)), .int .i64 (wayK (R))], .bool (wayZ (R))]) ∧ Below ww.heap.size ww w')) :
    Calls Tryz.prog 183 #[.agg #[.int .u8 key, .int .u8 ch], .agg #[.string s, .int .i64 (p), .int .i64 (n), .bool v, .bool c]] w fun e w' => e = .returned (.tuple #[.agg #[.int .i64 (wayX (R)), .int .i64 (wayK (R))], .bool (wayZ (R))]) ∧ Below w.heap.size w w' := by
  have HT : Hid (∀ ww, Calls Tryz.prog 224 #[.agg #[.int .u8 key, .int .u8 ch]] ww fun e w' => e = .returned (.bool (shortOf key)) ∧ Below ww.heap.size ww w') := fun ww => sShort_any key ch ww
  cases hsh : shortOf key with
  | true =>
    rw [hsh, if_pos rfl] at HG
    rw [hsh] at HT
    clear hsh
    go_enter Tryz.func183, Tryz.ntmps183
    have RB : Two (((w.alloc (.cells #[.int .u8 key, .int .u8 ch] 95)).alloc (.cells #[.string s, .int .i64 (p), .int .i64 (n), .bool v, .bool c] 206)).alloc (.cells #[.int .i64 0, .int .i64 0] 202)) (w.heap.size + 1 + 1) 0 0 := by have := Two.new ((w.alloc (.cells #[.int .u8 key, .int .u8 ch] 95)).alloc (.cells #[.string s, .int .i64 (p), .int .i64 (n), .bool v, .bool c] 206)) 0 0 202; simpa using this
    have F : Five (((w.alloc (.cells #[.int .u8 key, .int .u8 ch] 95)).alloc (.cells #[.string s, .int .i64 (p), .int .i64 (n), .bool v, .bool c] 206)).alloc (.cells #[.int .i64 0, .int .i64 0] 202)) (w.heap.size + 1) s p n v c := Five.alloc (by have := Five.new (w.alloc (.cells #[.int .u8 key, .int .u8 ch] 95)) s p n v c 206; simpa using this) _
    have f1 : (((w.alloc (.cells #[.int .u8 key, .int .u8 ch] 95)).alloc (.cells #[.string s, .int .i64 (p), .int .i64 (n), .bool v, .bool c] 206)).alloc (.cells #[.int .i64 0, .int .i64 0] 202)).cell? ⟨w.heap.size, 0, none⟩ = some (.int .u8 key) := memLater ((Below.refl _ _).alloc (Nat.le_refl _) _) (by simp)
    have f2 : (((w.alloc (.cells #[.int .u8 key, .int .u8 ch] 95)).alloc (.cells #[.string s, .int .i64 (p), .int .i64 (n), .bool v, .bool c] 206)).alloc (.cells #[.int .i64 0, .int .i64 0] 202)).cell? ⟨w.heap.size, 1, none⟩ = some (.int .u8 ch) := memLater ((Below.refl _ _).alloc (Nat.le_refl _) _) (by simp)
    go_wp2_with fail
    refine (HT.out _).mono ?_
    rintro r1 w1 ⟨rfl, h1⟩
    obtain ⟨hc1, hf1⟩ := bcell h1
    have hz1 := h1.size
    (try simp at hz1)
    have F1 : Five w1 (w.heap.size + 1) s p n v c := (by repeat (with_reducible first | exact F | refine f_o ?_ _ | refine Five.alloc ?_ _ | refine Five.drewN ?_ _ | refine Five.drew ?_ | refine Five.below ?_ h1))
    have F1_0 := F1.c0
    have F1_1 := F1.c1
    have F1_2 := F1.c2
    have F1_3 := F1.c3
    have F1_4 := F1.c4
    have F1_z := F1.fz
    have F1_l := F1.lt
    have RB1 : Two w1 (w.heap.size + 1 + 1) (0) (0) := (by repeat (with_reducible first | exact RB | refine t_o ?_ _ | refine Two.alloc ?_ _ | refine Two.drewN ?_ _ | refine Two.drew ?_ | refine Two.below ?_ h1))
    have RB1_0 := RB1.c0
    have RB1_1 := RB1.c1
    have RB1_z := RB1.fz
    have RB1_l := RB1.lt
    have g1 : w1.cell? ⟨w.heap.size, 0, none⟩ = some (.int .u8 key) := memLater h1 f1
    have g2 : w1.cell? ⟨w.heap.size, 1, none⟩ = some (.int .u8 ch) := memLater h1 f2
    clear hc1 hf1
    go_wp2_with fail
    refine (HG.out _).mono ?_
    rintro r2 w2 ⟨rfl, h2⟩
    obtain ⟨hc2, hf2⟩ := bcell h2
    have hz2 := h2.size
    (try simp at hz2)
    have RB2 : Two w2 (w.heap.size + 1 + 1) (0) (0) := (by repeat (with_reducible first | exact RB | refine t_o ?_ _ | refine Two.alloc ?_ _ | refine Two.drewN ?_ _ | refine Two.drew ?_ | refine Two.below ?_ h2 | refine Two.below ?_ h1))
    have RB2_0 := RB2.c0
    have RB2_1 := RB2.c1
    have RB2_z := RB2.fz
    have RB2_l := RB2.lt
    clear hc2 hf2
    go_wp2
    all_goals
      first
        | (refine bodyPost_ret (v := .tuple #[.agg #[.int .i64 (wayX (R)), .int .i64 (wayK (R))], .bool (wayZ (R))]) (by simp [results, Tryz.results183, go_sem, RB2_0, RB2_1, RB2_z, RB2_l]) rfl ⟨rfl, ?_⟩ <;> repeat (with_reducible first | exact Below.refl _ _ | refine b_s ?_ _ | refine b_a ?_ _ | refine Below.drew ?_ | refine below_drewN ?_ _ | refine b_t ?_ h2 | refine b_t ?_ h1))
  | false =>
    rw [hsh, if_neg (by simp)] at HG
    rw [hsh] at HT
    clear hsh
    go_enter Tryz.func183, Tryz.ntmps183
    have RB : Two (((w.alloc (.cells #[.int .u8 key, .int .u8 ch] 95)).alloc (.cells #[.string s, .int .i64 (p), .int .i64 (n), .bool v, .bool c] 206)).alloc (.cells #[.int .i64 0, .int .i64 0] 202)) (w.heap.size + 1 + 1) 0 0 := by have := Two.new ((w.alloc (.cells #[.int .u8 key, .int .u8 ch] 95)).alloc (.cells #[.string s, .int .i64 (p), .int .i64 (n), .bool v, .bool c] 206)) 0 0 202; simpa using this
    have F : Five (((w.alloc (.cells #[.int .u8 key, .int .u8 ch] 95)).alloc (.cells #[.string s, .int .i64 (p), .int .i64 (n), .bool v, .bool c] 206)).alloc (.cells #[.int .i64 0, .int .i64 0] 202)) (w.heap.size + 1) s p n v c := Five.alloc (by have := Five.new (w.alloc (.cells #[.int .u8 key, .int .u8 ch] 95)) s p n v c 206; simpa using this) _
    have f1 : (((w.alloc (.cells #[.int .u8 key, .int .u8 ch] 95)).alloc (.cells #[.string s, .int .i64 (p), .int .i64 (n), .bool v, .bool c] 206)).alloc (.cells #[.int .i64 0, .int .i64 0] 202)).cell? ⟨w.heap.size, 0, none⟩ = some (.int .u8 key) := memLater ((Below.refl _ _).alloc (Nat.le_refl _) _) (by simp)
    have f2 : (((w.alloc (.cells #[.int .u8 key, .int .u8 ch] 95)).alloc (.cells #[.string s, .int .i64 (p), .int .i64 (n), .bool v, .bool c] 206)).alloc (.cells #[.int .i64 0, .int .i64 0] 202)).cell? ⟨w.heap.size, 1, none⟩ = some (.int .u8 ch) := memLater ((Below.refl _ _).alloc (Nat.le_refl _) _) (by simp)
    go_wp2_with fail
    refine (HT.out _).mono ?_
    rintro r1 w1 ⟨rfl, h1⟩
    obtain ⟨hc1, hf1⟩ := bcell h1
    have hz1 := h1.size
    (try simp at hz1)
    have F1 : Five w1 (w.heap.size + 1) s p n v c := (by repeat (with_reducible first | exact F | refine f_o ?_ _ | refine Five.alloc ?_ _ | refine Five.drewN ?_ _ | refine Five.drew ?_ | refine Five.below ?_ h1))
    have F1_0 := F1.c0
    have F1_1 := F1.c1
    have F1_2 := F1.c2
    have F1_3 := F1.c3
    have F1_4 := F1.c4
    have F1_z := F1.fz
    have F1_l := F1.lt
    have RB1 : Two w1 (w.heap.size + 1 + 1) (0) (0) := (by repeat (with_reducible first | exact RB | refine t_o ?_ _ | refine Two.alloc ?_ _ | refine Two.drewN ?_ _ | refine Two.drew ?_ | refine Two.below ?_ h1))
    have RB1_0 := RB1.c0
    have RB1_1 := RB1.c1
    have RB1_z := RB1.fz
    have RB1_l := RB1.lt
    have g1 : w1.cell? ⟨w.heap.size, 0, none⟩ = some (.int .u8 key) := memLater h1 f1
    have g2 : w1.cell? ⟨w.heap.size, 1, none⟩ = some (.int .u8 ch) := memLater h1 f2
    clear hc1 hf1
    go_wp2_with fail
    refine (HG.out _).mono ?_
    rintro r2 w2 ⟨rfl, h2⟩
    obtain ⟨hc2, hf2⟩ := bcell h2
    have hz2 := h2.size
    (try simp at hz2)
    have RB2 : Two w2 (w.heap.size + 1 + 1) (0) (0) := (by repeat (with_reducible first | exact RB | refine t_o ?_ _ | refine Two.alloc ?_ _ | refine Two.drewN ?_ _ | refine Two.drew ?_ | refine Two.below ?_ h2 | refine Two.below ?_ h1))
    have RB2_0 := RB2.c0
    have RB2_1 := RB2.c1
    have RB2_z := RB2.fz
    have RB2_l := RB2.lt
    clear hc2 hf2
    go_wp2
    all_goals
      first
        | (refine bodyPost_ret (v := .tuple #[.agg #[.int .i64 (wayX (R)), .int .i64 (wayK (R))], .bool (wayZ (R))]) (by simp [results, Tryz.results183, go_sem, RB2_0, RB2_1, RB2_z, RB2_l]) rfl ⟨rfl, ?_⟩ <;> repeat (with_reducible first | exact Below.refl _ _ | refine b_s ?_ _ | refine b_a ?_ _ | refine Below.drew ?_ | refine below_drewN ?_ _ | refine b_t ?_ h2 | refine b_t ?_ h1))
end Go.Proofs.YtlendfhehhacpaaGreat
