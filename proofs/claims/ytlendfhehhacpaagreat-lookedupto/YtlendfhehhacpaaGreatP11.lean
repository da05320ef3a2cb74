/- Joined of the texts ModesM, WaysB, WaysB2. -/
import Derived.Test.YtlendfhehhacpaaGreatP10
import Derived.Test.YtlendfhehhacpaaGreatP08
import Derived.Test.YtlendfhehhacpaaGreatP01
set_option linter.unusedVariables false
set_option linter.unusedSimpArgs false
set_option maxRecDepth 100000
set_option maxHeartbeats 8000000
namespace Go.Proofs.YtlendfhehhacpaaGreat
open Go.RowKit
structure NbAt (w : World) (b r d : Nat) (p : Pg) (tv : Value) (n : Nat) (dg : ByteArray) : Prop where
  bd : BdAt w b r d tv dg
  rd : RdAt w r d p
  ow : ∃ xs, w.ownsRow 0 5 1 tv n xs
  br : b ≠ r
  bd' : b ≠ d
  tb : tv.ownBlock ≠ some b
  tr : tv.ownBlock ≠ some r
  td : tv.ownBlock ≠ some d
theorem mem_own {tv : Value} {k : Nat} : k ∈ own tv ↔ tv.ownBlock = some k := by
  unfold own
  cases tv.ownBlock <;> simp [eq_comm]
theorem sFurthest_any (s : ByteArray) (p n a b : Int) (v c : Bool) (w : World) (hb : -5000 ≤ b ∧ b ≤ 5000) :
    Calls Tryz.prog 242 #[.agg #[.string s, .int .i64 (p), .int .i64 (n), .bool v, .bool c], .agg #[.int .i64 (a), .int .i64 (b)]] w fun e w' => e = .returned (.int .i64 (if v = true then b else max a (b - 1))) ∧ Below w.heap.size w w' := by
  cases v with
  | true =>
    go_enter Tryz.func242, Tryz.ntmps242
    go_wp2
    refine bodyPost_ret (v := .int .i64 b) (by simp [results, Tryz.results242, go_sem]) rfl ⟨rfl, ?_⟩
    repeat (with_reducible first | exact Below.refl _ _ | refine b_s ?_ _ | refine b_a ?_ _ | refine Below.drew ?_ | refine below_drewN ?_ _)
  | false =>
    have HL : Hid (∀ ww, Calls Tryz.prog 202 #[.agg #[.int .i64 (a), .int .i64 (b)]] ww fun e w' => e = .returned (.int .i64 (max a (b - 1))) ∧ Below ww.heap.size ww w') := fun ww => tLast_any a b ww hb
    generalize max a (b - 1) = M at *
    go_enter Tryz.func242, Tryz.ntmps242
    go_wp2_with fail
    refine (HL.out _).mono ?_
    rintro e w1 ⟨rfl, h1⟩
    obtain ⟨hc1, hf1⟩ := bcell h1
    have hz1 := h1.size
    try simp at hz1
    go_wp2
    refine bodyPost_ret (v := .int .i64 M) (by simp [results, Tryz.results242, go_sem]) rfl ⟨rfl, ?_⟩
    repeat (with_reducible first | exact Below.refl _ _ | refine b_s ?_ _ | refine b_a ?_ _ | refine Below.drew ?_ | refine below_drewN ?_ _ | refine b_t ?_ h1)
theorem sInLine_h (s : ByteArray) (p n : Nat) (v c : Bool) (w : World) (hs : s.size ≤ 1000) (hp : p ≤ s.size) (hn : n ≤ 99) :
    Calls Tryz.prog 205 #[.agg #[.string s, .int .i64 (p), .int .i64 (n), .bool v, .bool c], .int .u8 104] w fun e w' => e = .returned (.tuple #[.agg #[.int .i64 (wayX (Nib.wayH s p (max n 1))), .int .i64 (wayK (Nib.wayH s p (max n 1)))], .bool (wayZ (Nib.wayH s p (max n 1)))]) ∧ Below w.heap.size w w' := by
  have HL : Hid (∀ ww, Calls Tryz.prog 239 #[.agg #[.string s, .int .i64 (p), .int .i64 (n), .bool v, .bool c]] ww fun e w' => e = .returned (.agg #[.int .i64 (Nib.beg s p), .int .i64 (Nib.fin s p)]) ∧ Below ww.heap.size ww w') := fun ww => sLine_any s p n v c p ww hs rfl hp
  have HN : Hid (∀ ww, Calls Tryz.prog 241 #[.agg #[.string s, .int .i64 (p), .int .i64 (n), .bool v, .bool c]] ww fun e w' => e = .returned (.int .i64 (max (n : Int) 1)) ∧ Below ww.heap.size ww w') := fun ww => sNumber_any s p n v c ww
  have HR : Hid (Nib.wayH s p (max n 1) = (if (p : Int) - max (n : Int) 1 < Nib.beg s p then (Nib.beg s p : Int) else (p : Int) - max (n : Int) 1, 0, (p : Int) == (Nib.beg s p : Int))) := by
    have : ((max n 1 : Nat) : Int) = max (n : Int) 1 := by omega
    rw [Hid, Nib.wayH, this]
  generalize Nib.wayH s p (max n 1) = R at *
  have hN1 : 1 ≤ max (n : Int) 1 := by omega
  have hN2 : max (n : Int) 1 ≤ 99 := by omega
  generalize max (n : Int) 1 = N at *
  have hb := Nib.beg_le s p
  generalize Nib.beg s p = B at *
  generalize Nib.fin s p = F at *
  have hw : IntKind.i64.wrap ((p : Int) - N) = (p : Int) - N := by rw [IntKind.wrap_i64]; omega
  have HU : Hid (∀ ww, Calls Tryz.prog 240 #[.agg #[.string s, .int .i64 (p), .int .i64 (n), .bool v, .bool c], .int .i64 (if (p : Int) - N < B then (B : Int) else (p : Int) - N), .int .i64 0] ww fun e w' => e = .returned (.tuple #[.agg #[.int .i64 (wayX (R)), .int .i64 (wayK (R))], .bool (wayZ (R))]) ∧ Below ww.heap.size ww w') := by
    intro ww
    refine sUnless_way s p n _ 0 v c ww ?_
    rw [HR.out]
    refine ⟨?_, fun _ => ⟨rfl, rfl⟩⟩
    simp only
    rw [Bool.eq_iff_iff]; simp only [beq_iff_eq]
    split <;> omega
  clear HR
  generalize hX : (if (p : Int) - N < B then (B : Int) else (p : Int) - N) = X at HU
  go_enter Tryz.func205, Tryz.ntmps205
  go_wp2_with fail
  refine (HL.out _).mono ?_
  rintro e w1 ⟨rfl, h1⟩
  obtain ⟨hc1, hf1⟩ := bcell h1
  have hz1 := h1.size
  try simp at hz1
  have hb1_0 := fun o => hc1 (w.heap.size) o (by first | omega | (simp <;> omega))
  have fb1_0 := fun o => hf1 (w.heap.size) o (by first | omega | (simp <;> omega))
  have hg1_0 : w.heap.size < w1.heap.size := (by omega)
  have hh1_0 : w.heap.size < w1.heap.size + 1 := (by omega)
  have hb1_1 := fun o => hc1 (w.heap.size + 1) o (by first | omega | (simp <;> omega))
  have fb1_1 := fun o => hf1 (w.heap.size + 1) o (by first | omega | (simp <;> omega))
  have hg1_1 : w.heap.size + 1 < w1.heap.size := (by omega)
  have hh1_1 : w.heap.size + 1 < w1.heap.size + 1 := (by omega)
  go_wp2_with fail
  go_region_held3 (fun ww => ww.cell? ⟨w.heap.size, 0, none⟩ = some (.string s) ∧ ww.cell? ⟨w.heap.size, 1, none⟩ = some (.int .i64 p) ∧ ww.cell? ⟨w.heap.size, 2, none⟩ = some (.int .i64 n) ∧ ww.cell? ⟨w.heap.size, 3, none⟩ = some (.bool v) ∧ ww.cell? ⟨w.heap.size, 4, none⟩ = some (.bool c) ∧ ww.cell? ⟨w1.heap.size, 0, none⟩ = some (.int .i64 B) ∧ ww.cell? ⟨w1.heap.size, 1, none⟩ = some (.int .i64 F)) ((refine ⟨?_, ?_, ?_, ?_, ?_, ?_, ?_⟩ <;> go_simp)) (first | (go_at_call 241; refine (HN.out _).mono ?_; rintro r2 w2 ⟨rfl, h2⟩; obtain ⟨hc2, hf2⟩ := bcell h2; have hz2 := h2.size; (try simp at hz2); (try have hl2_0 : w.heap.size < w2.heap.size := (by omega)); (try have hk2_0 : w.heap.size < w2.heap.size + 1 := (by omega)); (try have hl2_1 : w1.heap.size < w2.heap.size := (by omega)); (try have hk2_1 : w1.heap.size < w2.heap.size + 1 := (by omega)); have hb2_0 := fun o => hc2 (w.heap.size + 1) o (by first | omega | (simp <;> omega)); have fb2_0 := fun o => hf2 (w.heap.size + 1) o (by first | omega | (simp <;> omega)); (try have hg2_0 : w.heap.size + 1 < w2.heap.size := (by omega)); (try have hh2_0 : w.heap.size + 1 < w2.heap.size + 1 := (by omega))) | (go_at_call 240; refine (HU.out _).mono ?_; rintro r3 w3 ⟨rfl, h3⟩; obtain ⟨hc3, hf3⟩ := bcell h3; have hz3 := h3.size; (try simp at hz3); (try have hl3_0 : w.heap.size < w3.heap.size := (by omega)); (try have hk3_0 : w.heap.size < w3.heap.size + 1 := (by omega)); (try have hl3_1 : w1.heap.size < w3.heap.size := (by omega)); (try have hk3_1 : w1.heap.size < w3.heap.size + 1 := (by omega)); have hb3_0 := fun o => hc3 (w.heap.size + 1) o (by first | omega | (simp <;> omega)); have fb3_0 := fun o => hf3 (w.heap.size + 1) o (by first | omega | (simp <;> omega)); (try have hg3_0 : w.heap.size + 1 < w3.heap.size := (by omega)); (try have hh3_0 : w.heap.size + 1 < w3.heap.size + 1 := (by omega))))
  go_wp2
  all_goals
    first
      | (refine bodyPost_ret (v := .tuple #[.agg #[.int .i64 (wayX (R)), .int .i64 (wayK (R))], .bool (wayZ (R))]) (by simp [results, Tryz.results205, go_sem, hb1_1, hb2_0, hb3_0, hg1_1, hg2_0, hg3_0]) rfl ⟨rfl, ?_⟩ <;> repeat (with_reducible first | exact Below.refl _ _ | refine b_s ?_ _ | refine b_a ?_ _ | refine Below.drew ?_ | refine below_drewN ?_ _ | refine b_t ?_ h3 | refine b_t ?_ h2 | refine b_t ?_ h1))
theorem sInLine_l (s : ByteArray) (p n : Nat) (v c : Bool) (w : World) (hs : s.size ≤ 1000) (hp : p ≤ s.size) (hn : n ≤ 99) (hl : p ≤ Nib.mostL s p v) :
    Calls Tryz.prog 205 #[.agg #[.string s, .int .i64 (p), .int .i64 (n), .bool v, .bool c], .int .u8 108] w fun e w' => e = .returned (.tuple #[.agg #[.int .i64 (wayX (Nib.wayL s p (max n 1) v)), .int .i64 (wayK (Nib.wayL s p (max n 1) v))], .bool (wayZ (Nib.wayL s p (max n 1) v))]) ∧ Below w.heap.size w w' := by
  have hf := Nib.fin_le hp
  have HL : Hid (∀ ww, Calls Tryz.prog 239 #[.agg #[.string s, .int .i64 (p), .int .i64 (n), .bool v, .bool c]] ww fun e w' => e = .returned (.agg #[.int .i64 (Nib.beg s p), .int .i64 (Nib.fin s p)]) ∧ Below ww.heap.size ww w') := fun ww => sLine_any s p n v c p ww hs rfl hp
  have HN : Hid (∀ ww, Calls Tryz.prog 241 #[.agg #[.string s, .int .i64 (p), .int .i64 (n), .bool v, .bool c]] ww fun e w' => e = .returned (.int .i64 (max (n : Int) 1)) ∧ Below ww.heap.size ww w') := fun ww => sNumber_any s p n v c ww
  have HM : Hid (∀ ww, Calls Tryz.prog 242 #[.agg #[.string s, .int .i64 (p), .int .i64 (n), .bool v, .bool c], .agg #[.int .i64 (Nib.beg s p), .int .i64 (Nib.fin s p)]] ww fun e w' => e = .returned (.int .i64 (Nib.mostL s p v : Nat)) ∧ Below ww.heap.size ww w') := by
    intro ww
    have := sFurthest_any s p n (Nib.beg s p) (Nib.fin s p) v c ww (by omega)
    have e : ((Nib.mostL s p v : Nat) : Int) = if v = true then ((Nib.fin s p : Nat) : Int) else max ((Nib.beg s p : Nat) : Int) (((Nib.fin s p : Nat) : Int) - 1) := by
      unfold Nib.mostL; rw [← Nib.lst_max]; split <;> rfl
    rw [e]; exact this
  have HR : Hid (Nib.wayL s p (max n 1) v = (if (Nib.mostL s p v : Int) < (p : Int) + max (n : Int) 1 then (Nib.mostL s p v : Int) else (p : Int) + max (n : Int) 1, 0, decide ((if (Nib.mostL s p v : Int) < (p : Int) + max (n : Int) 1 then (Nib.mostL s p v : Int) else (p : Int) + max (n : Int) 1) ≤ (p : Int)))) := by
    have : ((max n 1 : Nat) : Int) = max (n : Int) 1 := by omega
    rw [Hid, Nib.wayL, this]
  generalize Nib.wayL s p (max n 1) v = R at *
  have hN1 : 1 ≤ max (n : Int) 1 := by omega
  have hN2 : max (n : Int) 1 ≤ 99 := by omega
  generalize max (n : Int) 1 = N at *
  generalize Nib.mostL s p v = M at *
  generalize Nib.beg s p = B at *
  generalize Nib.fin s p = F at *
  have hw : IntKind.i64.wrap ((p : Int) + N) = (p : Int) + N := by rw [IntKind.wrap_i64]; omega
  have HU : Hid (∀ ww, Calls Tryz.prog 240 #[.agg #[.string s, .int .i64 (p), .int .i64 (n), .bool v, .bool c], .int .i64 (if (M : Int) < (p : Int) + N then (M : Int) else (p : Int) + N), .int .i64 0] ww fun e w' => e = .returned (.tuple #[.agg #[.int .i64 (wayX (R)), .int .i64 (wayK (R))], .bool (wayZ (R))]) ∧ Below ww.heap.size ww w') := by
    intro ww
    refine sUnless_way s p n _ 0 v c ww ?_
    rw [HR.out]
    refine ⟨?_, fun _ => ⟨rfl, rfl⟩⟩
    simp only
    rw [Bool.eq_iff_iff]; simp only [beq_iff_eq, decide_eq_true_eq]
    split <;> omega
  clear HR
  generalize hX : (if (M : Int) < (p : Int) + N then (M : Int) else (p : Int) + N) = X at HU
  go_enter Tryz.func205, Tryz.ntmps205
  go_wp2_with fail
  refine (HL.out _).mono ?_
  rintro e w1 ⟨rfl, h1⟩
  obtain ⟨hc1, hf1⟩ := bcell h1
  have hz1 := h1.size
  try simp at hz1
  have hb1_0 := fun o => hc1 (w.heap.size) o (by first | omega | (simp <;> omega))
  have fb1_0 := fun o => hf1 (w.heap.size) o (by first | omega | (simp <;> omega))
  have hg1_0 : w.heap.size < w1.heap.size := (by omega)
  have hh1_0 : w.heap.size < w1.heap.size + 1 := (by omega)
  have hb1_1 := fun o => hc1 (w.heap.size + 1) o (by first | omega | (simp <;> omega))
  have fb1_1 := fun o => hf1 (w.heap.size + 1) o (by first | omega | (simp <;> omega))
  have hg1_1 : w.heap.size + 1 < w1.heap.size := (by omega)
  have hh1_1 : w.heap.size + 1 < w1.heap.size + 1 := (by omega)
  go_wp2_with fail
  go_region_held3 (fun ww => ww.cell? ⟨w.heap.size, 0, none⟩ = some (.string s) ∧ ww.cell? ⟨w.heap.size, 1, none⟩ = some (.int .i64 p) ∧ ww.cell? ⟨w.heap.size, 2, none⟩ = some (.int .i64 n) ∧ ww.cell? ⟨w.heap.size, 3, none⟩ = some (.bool v) ∧ ww.cell? ⟨w.heap.size, 4, none⟩ = some (.bool c) ∧ ww.cell? ⟨w1.heap.size, 0, none⟩ = some (.int .i64 B) ∧ ww.cell? ⟨w1.heap.size, 1, none⟩ = some (.int .i64 F)) ((refine ⟨?_, ?_, ?_, ?_, ?_, ?_, ?_⟩ <;> go_simp)) (first | (go_at_call 241; refine (HN.out _).mono ?_; rintro r2 w2 ⟨rfl, h2⟩; obtain ⟨hc2, hf2⟩ := bcell h2; have hz2 := h2.size; (try simp at hz2); (try have hl2_0 : w.heap.size < w2.heap.size := (by omega)); (try have hk2_0 : w.heap.size < w2.heap.size + 1 := (by omega)); (try have hl2_1 : w1.heap.size < w2.heap.size := (by omega)); (try have hk2_1 : w1.heap.size < w2.heap.size + 1 := (by omega)); have hb2_0 := fun o => hc2 (w.heap.size + 1) o (by first | omega | (simp <;> omega)); have fb2_0 := fun o => hf2 (w.heap.size + 1) o (by first | omega | (simp <;> omega)); (try have hg2_0 : w.heap.size + 1 < w2.heap.size := (by omega)); (try have hh2_0 : w.heap.size + 1 < w2.heap.size + 1 := (by omega))) | (go_at_call 242; refine (HM.out _).mono ?_; rintro r3 w3 ⟨rfl, h3⟩; obtain ⟨hc3, hf3⟩ := bcell h3; have hz3 := h3.size; (try simp at hz3); (try have hl3_0 : w.heap.size < w3.heap.size := (by omega)); (try have hk3_0 : w.heap.size < w3.heap.size + 1 := (by omega)); (try have hl3_1 : w1.heap.size < w3.heap.size := (by omega)); (try have hk3_1 : w1.heap.size < w3.heap.size + 1 := (by omega)); have hb3_0 := fun o => hc3 (w.heap.size + 1) o (by first | omega | (simp <;> omega)); have fb3_0 := fun o => hf3 (w.heap.size + 1) o (by first | omega | (simp <;> omega)); (try have hg3_0 : w.heap.size + 1 < w3.heap.size := (by omega)); (try have hh3_0 : w.heap.size + 1 < w3.heap.size + 1 := (by omega))) | (go_at_call 240; refine (HU.out _).mono ?_; rintro r4 w4 ⟨rfl, h4⟩; obtain ⟨hc4, hf4⟩ := bcell h4; have hz4 := h4.size; (try simp at hz4); (try have hl4_0 : w.heap.size < w4.heap.size := (by omega)); (try have hk4_0 : w.heap.size < w4.heap.size + 1 := (by omega)); (try have hl4_1 : w1.heap.size < w4.heap.size := (by omega)); (try have hk4_1 : w1.heap.size < w4.heap.size + 1 := (by omega)); have hb4_0 := fun o => hc4 (w.heap.size + 1) o (by first | omega | (simp <;> omega)); have fb4_0 := fun o => hf4 (w.heap.size + 1) o (by first | omega | (simp <;> omega)); (try have hg4_0 : w.heap.size + 1 < w4.heap.size := (by omega)); (try have hh4_0 : w.heap.size + 1 < w4.heap.size + 1 := (by omega))))
  go_wp2
  all_goals
    first
      | (refine bodyPost_ret (v := .tuple #[.agg #[.int .i64 (wayX (R)), .int .i64 (wayK (R))], .bool (wayZ (R))]) (by simp [results, Tryz.results205, go_sem, hb1_1, hb2_0, hb3_0, hb4_0, hg1_1, hg2_0, hg3_0, hg4_0]) rfl ⟨rfl, ?_⟩ <;> repeat (with_reducible first | exact Below.refl _ _ | refine b_s ?_ _ | refine b_a ?_ _ | refine Below.drew ?_ | refine below_drewN ?_ _ | refine b_t ?_ h4 | refine b_t ?_ h3 | refine b_t ?_ h2 | refine b_t ?_ h1))
end Go.Proofs.YtlendfhehhacpaaGreat
