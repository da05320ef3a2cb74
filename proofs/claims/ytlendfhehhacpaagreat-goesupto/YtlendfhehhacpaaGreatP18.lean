/- Joined of the texts WalkO2, WalkP, WalkQ. -/
import Derived.Test.YtlendfhehhacpaaGreatP17
import Derived.Test.YtlendfhehhacpaaGreatP02
set_option linter.unusedVariables false
set_option linter.unusedSimpArgs false
set_option maxRecDepth 100000
set_option maxHeartbeats 8000000
namespace Go.Proofs.YtlendfhehhacpaaGreat
open Go.RowKit
theorem way_turn102 (b : Nat) (e : Nib.Ed) (x : Nib.Cmd) (v : Bool) (dv uv : Value) (w : World) (h : EdAt w b e dv uv) (hs : e.t.size ≤ 1000) (hp : e.p ≤ e.t.size) (hn1 : 1 ≤ x.n) (hn : x.n ≤ 99)
    (hw : x.way = 44) (hf : e.find = 102) :
    Calls Tryz.prog 88 #[.pointer (some ⟨b, 0, none⟩), .agg #[.bool x.more, .bool x.bad, .int .i64 x.reg, .int .i64 x.n, .bool x.given, .int .u8 x.verb, .bool x.twice, .int .u8 x.object, .bool x.around, .int .u8 x.way, .int .u8 x.other, .int .u8 x.c], .bool v] w fun r w' =>
      r = .returned (.agg #[.int .i64 (Nib.wayOf e x v).1, .int .i64 (Nib.wayOf e x v).2.1, .bool (Nib.wayOf e x v).2.2]) ∧ EdAt w' b (Nib.wayEd e x) dv uv ∧ Upd [b] w w' := by
  have H := h
  obtain ⟨c0, c1, c2, c3, c4, cS, cL, c59, c60, c61, c62, c63, c64, c65, c66, c67, c68, c69, fz, lt⟩ := h
  clear cS cL c2 c3 c4 c61 c62 c63 c64 c65 c66 c67 c68 c69
  have hnf : Nib.isFind x.way = false := by rw [hw]; decide
  have HE : Hid (Nib.wayEd e x = e) := by rw [Hid, Nib.wayEd, if_neg (by simp [hnf])]
  have hfk : Nib.isWay (70) = true := by decide
  have HX : Hid (Nib.wayOf e x v = Nib.goWay e.t e.p 70 e.findC x.n.toNat x.given v true) := by
    rw [Hid, Nib.wayOf, if_neg (by simp [hnf]), if_pos (by omega), if_neg (by omega), hf]; simp [hw, Nib.flp]
  generalize Nib.wayOf e x v = y at *
  generalize Nib.wayEd e x = e' at *
  have hw1 : (x.way == 59) = false := by simp [hw]
  have hw2 : (x.way == 44) = true := by simp [hw]
  rw [← mem_kFind] at hnf
  rw [hf] at c59
  have HG : Hid (∀ ww, Calls Tryz.prog 109 #[.string e.t, .int .i64 e.p, .agg #[.int .u8 70, .int .u8 e.findC, .int .i64 x.n, .bool x.given, .bool v, .bool true]] ww fun r w' =>
      r = .returned (.agg #[.int .i64 y.1, .int .i64 y.2.1, .bool y.2.2]) ∧ Below ww.heap.size ww w') := by
    intro ww
    have := go_any e.t e.p x.n.toNat 70 e.findC x.given v true ww hs hp (by omega) (by omega) hfk
    rw [← HX.out, Int.toNat_of_nonneg (by omega)] at this
    exact this
  clear HX hfk hw hf
  have hbx : bits BinOp.xor IntKind.u8 102 32 = 70 := by kernel_rfl
  have l1 : b < w.heap.size + 1 := by omega
  have l2 : b < w.heap.size + 1 + 1 := by omega
  have l3 : b < w.heap.size + 1 + 1 + 1 := by omega
  go_enter Tryz.func88, Tryz.ntmps88
  go_wp2_with fail
  refine (in_any Nib.kFind _ _ (by decide)).mono ?_
  rintro e w' ⟨rfl, rfl⟩
  go_wp2_with fail
  go_region_held3 (fun ww => ww.cell? ⟨b, 0, none⟩ = some (.string e.t) ∧ ww.cell? ⟨b, 1, none⟩ = some (.int .i64 e.p) ∧ ww.cell? ⟨w.heap.size + 1 + 1, 0, none⟩ = some (.int .u8 70) ∧ ww.cell? ⟨w.heap.size + 1 + 1, 1, none⟩ = some (.int .u8 e.findC) ∧ ww.cell? ⟨w.heap.size + 1 + 1, 2, none⟩ = some (.int .i64 x.n) ∧ ww.cell? ⟨w.heap.size + 1 + 1, 3, none⟩ = some (.bool x.given) ∧ ww.cell? ⟨w.heap.size + 1 + 1, 4, none⟩ = some (.bool v) ∧ ww.cell? ⟨w.heap.size + 1 + 1, 5, none⟩ = some (.bool true)) ((refine ⟨?_, ?_, ?_, ?_, ?_, ?_, ?_, ?_⟩ <;> go_simp)) ((go_at_call 109; refine (HG.out _).mono ?_; rintro r w3 ⟨rfl, h3⟩; obtain ⟨hc3, hf3⟩ := bcell h3; have hz3 := h3.size; simp at hz3; have h30 := fun o => hc3 (w.heap.size + 1) o (by simp <;> omega); have f30 := fun o => hf3 (w.heap.size + 1) o (by simp <;> omega)))
  go_wp2
  refine bodyPost_ret (v := .agg #[.int .i64 y.1, .int .i64 y.2.1, .bool y.2.2]) (by simp [results, Tryz.results88, go_sem, h30]) rfl ⟨rfl, ?_, ?_⟩
  · rw [HE.out]
    repeat (with_reducible first | exact H | refine e_o ?_ _ | refine EdAt.alloc ?_ _ | refine EdAt.drewN ?_ _ | refine EdAt.drew ?_ | refine EdAt.below ?_ h3)
  · repeat (with_reducible first | exact Upd.refl _ _ | assumption | refine u_s ?_ _ | refine Upd.alloc ?_ _ | refine Upd.drewN ?_ _ | refine Upd.drew ?_ | refine Upd.below ?_ h3)
theorem way_turn116 (b : Nat) (e : Nib.Ed) (x : Nib.Cmd) (v : Bool) (dv uv : Value) (w : World) (h : EdAt w b e dv uv) (hs : e.t.size ≤ 1000) (hp : e.p ≤ e.t.size) (hn1 : 1 ≤ x.n) (hn : x.n ≤ 99)
    (hw : x.way = 44) (hf : e.find = 116) :
    Calls Tryz.prog 88 #[.pointer (some ⟨b, 0, none⟩), .agg #[.bool x.more, .bool x.bad, .int .i64 x.reg, .int .i64 x.n, .bool x.given, .int .u8 x.verb, .bool x.twice, .int .u8 x.object, .bool x.around, .int .u8 x.way, .int .u8 x.other, .int .u8 x.c], .bool v] w fun r w' =>
      r = .returned (.agg #[.int .i64 (Nib.wayOf e x v).1, .int .i64 (Nib.wayOf e x v).2.1, .bool (Nib.wayOf e x v).2.2]) ∧ EdAt w' b (Nib.wayEd e x) dv uv ∧ Upd [b] w w' := by
  have H := h
  obtain ⟨c0, c1, c2, c3, c4, cS, cL, c59, c60, c61, c62, c63, c64, c65, c66, c67, c68, c69, fz, lt⟩ := h
  clear cS cL c2 c3 c4 c61 c62 c63 c64 c65 c66 c67 c68 c69
  have hnf : Nib.isFind x.way = false := by rw [hw]; decide
  have HE : Hid (Nib.wayEd e x = e) := by rw [Hid, Nib.wayEd, if_neg (by simp [hnf])]
  have hfk : Nib.isWay (84) = true := by decide
  have HX : Hid (Nib.wayOf e x v = Nib.goWay e.t e.p 84 e.findC x.n.toNat x.given v true) := by
    rw [Hid, Nib.wayOf, if_neg (by simp [hnf]), if_pos (by omega), if_neg (by omega), hf]; simp [hw, Nib.flp]
  generalize Nib.wayOf e x v = y at *
  generalize Nib.wayEd e x = e' at *
  have hw1 : (x.way == 59) = false := by simp [hw]
  have hw2 : (x.way == 44) = true := by simp [hw]
  rw [← mem_kFind] at hnf
  rw [hf] at c59
  have HG : Hid (∀ ww, Calls Tryz.prog 109 #[.string e.t, .int .i64 e.p, .agg #[.int .u8 84, .int .u8 e.findC, .int .i64 x.n, .bool x.given, .bool v, .bool true]] ww fun r w' =>
      r = .returned (.agg #[.int .i64 y.1, .int .i64 y.2.1, .bool y.2.2]) ∧ Below ww.heap.size ww w') := by
    intro ww
    have := go_any e.t e.p x.n.toNat 84 e.findC x.given v true ww hs hp (by omega) (by omega) hfk
    rw [← HX.out, Int.toNat_of_nonneg (by omega)] at this
    exact this
  clear HX hfk hw hf
  have hbx : bits BinOp.xor IntKind.u8 116 32 = 84 := by kernel_rfl
  have l1 : b < w.heap.size + 1 := by omega
  have l2 : b < w.heap.size + 1 + 1 := by omega
  have l3 : b < w.heap.size + 1 + 1 + 1 := by omega
  go_enter Tryz.func88, Tryz.ntmps88
  go_wp2_with fail
  refine (in_any Nib.kFind _ _ (by decide)).mono ?_
  rintro e w' ⟨rfl, rfl⟩
  go_wp2_with fail
  go_region_held3 (fun ww => ww.cell? ⟨b, 0, none⟩ = some (.string e.t) ∧ ww.cell? ⟨b, 1, none⟩ = some (.int .i64 e.p) ∧ ww.cell? ⟨w.heap.size + 1 + 1, 0, none⟩ = some (.int .u8 84) ∧ ww.cell? ⟨w.heap.size + 1 + 1, 1, none⟩ = some (.int .u8 e.findC) ∧ ww.cell? ⟨w.heap.size + 1 + 1, 2, none⟩ = some (.int .i64 x.n) ∧ ww.cell? ⟨w.heap.size + 1 + 1, 3, none⟩ = some (.bool x.given) ∧ ww.cell? ⟨w.heap.size + 1 + 1, 4, none⟩ = some (.bool v) ∧ ww.cell? ⟨w.heap.size + 1 + 1, 5, none⟩ = some (.bool true)) ((refine ⟨?_, ?_, ?_, ?_, ?_, ?_, ?_, ?_⟩ <;> go_simp)) ((go_at_call 109; refine (HG.out _).mono ?_; rintro r w3 ⟨rfl, h3⟩; obtain ⟨hc3, hf3⟩ := bcell h3; have hz3 := h3.size; simp at hz3; have h30 := fun o => hc3 (w.heap.size + 1) o (by simp <;> omega); have f30 := fun o => hf3 (w.heap.size + 1) o (by simp <;> omega)))
  go_wp2
  refine bodyPost_ret (v := .agg #[.int .i64 y.1, .int .i64 y.2.1, .bool y.2.2]) (by simp [results, Tryz.results88, go_sem, h30]) rfl ⟨rfl, ?_, ?_⟩
  · rw [HE.out]
    repeat (with_reducible first | exact H | refine e_o ?_ _ | refine EdAt.alloc ?_ _ | refine EdAt.drewN ?_ _ | refine EdAt.drew ?_ | refine EdAt.below ?_ h3)
  · repeat (with_reducible first | exact Upd.refl _ _ | assumption | refine u_s ?_ _ | refine Upd.alloc ?_ _ | refine Upd.drewN ?_ _ | refine Upd.drew ?_ | refine Upd.below ?_ h3)
theorem way_turn70 (b : Nat) (e : Nib.Ed) (x : Nib.Cmd) (v : Bool) (dv uv : Value) (w : World) (h : EdAt w b e dv uv) (hs : e.t.size ≤ 1000) (hp : e.p ≤ e.t.size) (hn1 : 1 ≤ x.n) (hn : x.n ≤ 99)
    (hw : x.way = 44) (hf : e.find = 70) :
    Calls Tryz.prog 88 #[.pointer (some ⟨b, 0, none⟩), .agg #[.bool x.more, .bool x.bad, .int .i64 x.reg, .int .i64 x.n, .bool x.given, .int .u8 x.verb, .bool x.twice, .int .u8 x.object, .bool x.around, .int .u8 x.way, .int .u8 x.other, .int .u8 x.c], .bool v] w fun r w' =>
      r = .returned (.agg #[.int .i64 (Nib.wayOf e x v).1, .int .i64 (Nib.wayOf e x v).2.1, .bool (Nib.wayOf e x v).2.2]) ∧ EdAt w' b (Nib.wayEd e x) dv uv ∧ Upd [b] w w' := by
  have H := h
  obtain ⟨c0, c1, c2, c3, c4, cS, cL, c59, c60, c61, c62, c63, c64, c65, c66, c67, c68, c69, fz, lt⟩ := h
  clear cS cL c2 c3 c4 c61 c62 c63 c64 c65 c66 c67 c68 c69
  have hnf : Nib.isFind x.way = false := by rw [hw]; decide
  have HE : Hid (Nib.wayEd e x = e) := by rw [Hid, Nib.wayEd, if_neg (by simp [hnf])]
  have hfk : Nib.isWay (102) = true := by decide
  have HX : Hid (Nib.wayOf e x v = Nib.goWay e.t e.p 102 e.findC x.n.toNat x.given v true) := by
    rw [Hid, Nib.wayOf, if_neg (by simp [hnf]), if_pos (by omega), if_neg (by omega), hf]; simp [hw, Nib.flp]
  generalize Nib.wayOf e x v = y at *
  generalize Nib.wayEd e x = e' at *
  have hw1 : (x.way == 59) = false := by simp [hw]
  have hw2 : (x.way == 44) = true := by simp [hw]
  rw [← mem_kFind] at hnf
  rw [hf] at c59
  have HG : Hid (∀ ww, Calls Tryz.prog 109 #[.string e.t, .int .i64 e.p, .agg #[.int .u8 102, .int .u8 e.findC, .int .i64 x.n, .bool x.given, .bool v, .bool true]] ww fun r w' =>
      r = .returned (.agg #[.int .i64 y.1, .int .i64 y.2.1, .bool y.2.2]) ∧ Below ww.heap.size ww w') := by
    intro ww
    have := go_any e.t e.p x.n.toNat 102 e.findC x.given v true ww hs hp (by omega) (by omega) hfk
    rw [← HX.out, Int.toNat_of_nonneg (by omega)] at this
    exact this
  clear HX hfk hw hf
  have hbx : bits BinOp.xor IntKind.u8 70 32 = 102 := by kernel_rfl
  have l1 : b < w.heap.size + 1 := by omega
  have l2 : b < w.heap.size + 1 + 1 := by omega
  have l3 : b < w.heap.size + 1 + 1 + 1 := by omega
  go_enter Tryz.func88, Tryz.ntmps88
  go_wp2_with fail
  refine (in_any Nib.kFind _ _ (by decide)).mono ?_
  rintro e w' ⟨rfl, rfl⟩
  go_wp2_with fail
  go_region_held3 (fun ww => ww.cell? ⟨b, 0, none⟩ = some (.string e.t) ∧ ww.cell? ⟨b, 1, none⟩ = some (.int .i64 e.p) ∧ ww.cell? ⟨w.heap.size + 1 + 1, 0, none⟩ = some (.int .u8 102) ∧ ww.cell? ⟨w.heap.size + 1 + 1, 1, none⟩ = some (.int .u8 e.findC) ∧ ww.cell? ⟨w.heap.size + 1 + 1, 2, none⟩ = some (.int .i64 x.n) ∧ ww.cell? ⟨w.heap.size + 1 + 1, 3, none⟩ = some (.bool x.given) ∧ ww.cell? ⟨w.heap.size + 1 + 1, 4, none⟩ = some (.bool v) ∧ ww.cell? ⟨w.heap.size + 1 + 1, 5, none⟩ = some (.bool true)) ((refine ⟨?_, ?_, ?_, ?_, ?_, ?_, ?_, ?_⟩ <;> go_simp)) ((go_at_call 109; refine (HG.out _).mono ?_; rintro r w3 ⟨rfl, h3⟩; obtain ⟨hc3, hf3⟩ := bcell h3; have hz3 := h3.size; simp at hz3; have h30 := fun o => hc3 (w.heap.size + 1) o (by simp <;> omega); have f30 := fun o => hf3 (w.heap.size + 1) o (by simp <;> omega)))
  go_wp2
  refine bodyPost_ret (v := .agg #[.int .i64 y.1, .int .i64 y.2.1, .bool y.2.2]) (by simp [results, Tryz.results88, go_sem, h30]) rfl ⟨rfl, ?_, ?_⟩
  · rw [HE.out]
    repeat (with_reducible first | exact H | refine e_o ?_ _ | refine EdAt.alloc ?_ _ | refine EdAt.drewN ?_ _ | refine EdAt.drew ?_ | refine EdAt.below ?_ h3)
  · repeat (with_reducible first | exact Upd.refl _ _ | assumption | refine u_s ?_ _ | refine Upd.alloc ?_ _ | refine Upd.drewN ?_ _ | refine Upd.drew ?_ | refine Upd.below ?_ h3)
theorem way_turn84 (b : Nat) (e : Nib.Ed) (x : Nib.Cmd) (v : Bool) (dv uv : Value) (w : World) (h : EdAt w b e dv uv) (hs : e.t.size ≤ 1000) (hp : e.p ≤ e.t.size) (hn1 : 1 ≤ x.n) (hn : x.n ≤ 99)
    (hw : x.way = 44) (hf : e.find = 84) :
    Calls Tryz.prog 88 #[.pointer (some ⟨b, 0, none⟩), .agg #[.bool x.more, .bool x.bad, .int .i64 x.reg, .int .i64 x.n, .bool x.given, .int .u8 x.verb, .bool x.twice, .int .u8 x.object, .bool x.around, .int .u8 x.way, .int .u8 x.other, .int .u8 x.c], .bool v] w fun r w' =>
      r = .returned (.agg #[.int .i64 (Nib.wayOf e x v).1, .int .i64 (Nib.wayOf e x v).2.1, .bool (Nib.wayOf e x v).2.2]) ∧ EdAt w' b (Nib.wayEd e x) dv uv ∧ Upd [b] w w' := by
  have H := h
  obtain ⟨c0, c1, c2, c3, c4, cS, cL, c59, c60, c61, c62, c63, c64, c65, c66, c67, c68, c69, fz, lt⟩ := h
  clear cS cL c2 c3 c4 c61 c62 c63 c64 c65 c66 c67 c68 c69
  have hnf : Nib.isFind x.way = false := by rw [hw]; decide
  have HE : Hid (Nib.wayEd e x = e) := by rw [Hid, Nib.wayEd, if_neg (by simp [hnf])]
  have hfk : Nib.isWay (116) = true := by decide
  have HX : Hid (Nib.wayOf e x v = Nib.goWay e.t e.p 116 e.findC x.n.toNat x.given v true) := by
    rw [Hid, Nib.wayOf, if_neg (by simp [hnf]), if_pos (by omega), if_neg (by omega), hf]; simp [hw, Nib.flp]
  generalize Nib.wayOf e x v = y at *
  generalize Nib.wayEd e x = e' at *
  have hw1 : (x.way == 59) = false := by simp [hw]
  have hw2 : (x.way == 44) = true := by simp [hw]
  rw [← mem_kFind] at hnf
  rw [hf] at c59
  have HG : Hid (∀ ww, Calls Tryz.prog 109 #[.string e.t, .int .i64 e.p, .agg #[.int .u8 116, .int .u8 e.findC, .int .i64 x.n, .bool x.given, .bool v, .bool true]] ww fun r w' =>
      r = .returned (.agg #[.int .i64 y.1, .int .i64 y.2.1, .bool y.2.2]) ∧ Below ww.heap.size ww w') := by
    intro ww
    have := go_any e.t e.p x.n.toNat 116 e.findC x.given v true ww hs hp (by omega) (by omega) hfk
    rw [← HX.out, Int.toNat_of_nonneg (by omega)] at this
    exact this
  clear HX hfk hw hf
  have hbx : bits BinOp.xor IntKind.u8 84 32 = 116 := by kernel_rfl
  have l1 : b < w.heap.size + 1 := by omega
  have l2 : b < w.heap.size + 1 + 1 := by omega
  have l3 : b < w.heap.size + 1 + 1 + 1 := by omega
  go_enter Tryz.func88, Tryz.ntmps88
  go_wp2_with fail
  refine (in_any Nib.kFind _ _ (by decide)).mono ?_
  rintro e w' ⟨rfl, rfl⟩
  go_wp2_with fail
  go_region_held3 (fun ww => ww.cell? ⟨b, 0, none⟩ = some (.string e.t) ∧ ww.cell? ⟨b, 1, none⟩ = some (.int .i64 e.p) ∧ ww.cell? ⟨w.heap.size + 1 + 1, 0, none⟩ = some (.int .u8 116) ∧ ww.cell? ⟨w.heap.size + 1 + 1, 1, none⟩ = some (.int .u8 e.findC) ∧ ww.cell? ⟨w.heap.size + 1 + 1, 2, none⟩ = some (.int .i64 x.n) ∧ ww.cell? ⟨w.heap.size + 1 + 1, 3, none⟩ = some (.bool x.given) ∧ ww.cell? ⟨w.heap.size + 1 + 1, 4, none⟩ = some (.bool v) ∧ ww.cell? ⟨w.heap.size + 1 + 1, 5, none⟩ = some (.bool true)) ((refine ⟨?_, ?_, ?_, ?_, ?_, ?_, ?_, ?_⟩ <;> go_simp)) ((go_at_call 109; refine (HG.out _).mono ?_; rintro r w3 ⟨rfl, h3⟩; obtain ⟨hc3, hf3⟩ := bcell h3; have hz3 := h3.size; simp at hz3; have h30 := fun o => hc3 (w.heap.size + 1) o (by simp <;> omega); have f30 := fun o => hf3 (w.heap.size + 1) o (by simp <;> omega)))
  go_wp2
  refine bodyPost_ret (v := .agg #[.int .i64 y.1, .int .i64 y.2.1, .bool y.2.2]) (by simp [results, Tryz.results88, go_sem, h30]) rfl ⟨rfl, ?_, ?_⟩
  · rw [HE.out]
    repeat (with_reducible first | exact H | refine e_o ?_ _ | refine EdAt.alloc ?_ _ | refine EdAt.drewN ?_ _ | refine EdAt.drew ?_ | refine EdAt.below ?_ h3)
  · repeat (with_reducible first | exact Upd.refl _ _ | assumption | refine u_s ?_ _ | refine Upd.alloc ?_ _ | refine Upd.drewN ?_ _ | refine Upd.drew ?_ | refine Upd.below ?_ h3)
def findOk (e : Nib.Ed) : Prop := e.find = 0 ∨ Nib.isFind e.find = true
theorem way_any (b : Nat) (e : Nib.Ed) (x : Nib.Cmd) (v : Bool) (dv uv : Value) (w : World) (h : EdAt w b e dv uv) (hs : e.t.size ≤ 1000) (hp : e.p ≤ e.t.size) (hn1 : 1 ≤ x.n) (hn : x.n ≤ 99)
    (hw : Nib.isWay x.way = true ∨ x.way = 59 ∨ x.way = 44) (hf : findOk e) :
    Calls Tryz.prog 88 #[.pointer (some ⟨b, 0, none⟩), .agg #[.bool x.more, .bool x.bad, .int .i64 x.reg, .int .i64 x.n, .bool x.given, .int .u8 x.verb, .bool x.twice, .int .u8 x.object, .bool x.around, .int .u8 x.way, .int .u8 x.other, .int .u8 x.c], .bool v] w fun r w' =>
      r = .returned (.agg #[.int .i64 (Nib.wayOf e x v).1, .int .i64 (Nib.wayOf e x v).2.1, .bool (Nib.wayOf e x v).2.2]) ∧ EdAt w' b (Nib.wayEd e x) dv uv ∧ Upd [b] w w' := by
  rcases hw with hw | hw
  · cases hi : Nib.isFind x.way with
    | false => exact way_plain b e x v dv uv w h hs hp hn1 hn hw hi
    | true =>
      by_cases hc : x.c = 27
      · exact way_esc b e x v dv uv w h hs hp hn1 hn hi hc
      · exact way_find b e x v dv uv w h hs hp hn1 hn hi hc
  · rcases hf with hf | hf
    · exact way_none b e x v dv uv w h hs hp hn1 hn hw hf
    · rcases hw with hw | hw
      · exact way_again59 b e x v dv uv w h hs hp hn1 hn hw hf
      · simp only [Nib.isFind, Bool.or_eq_true, beq_iff_eq] at hf
        rcases hf with ((hf | hf) | hf) | hf
        · exact way_turn102 b e x v dv uv w h hs hp hn1 hn hw hf
        · exact way_turn116 b e x v dv uv w h hs hp hn1 hn hw hf
        · exact way_turn70 b e x v dv uv w h hs hp hn1 hn hw hf
        · exact way_turn84 b e x v dv uv w h hs hp hn1 hn hw hf
theorem refNew_long (t : ByteArray) (w : World) (h : 1000 < t.size) :
    Calls Tryz.prog 25 #[.string t] w fun r w' => r = .returned (.tuple #[.pointer none, .int .i64 1]) ∧ w' = w := by
  have h' : (1000 : Int) < (t.size : Int) := by omega
  go_enter Tryz.func25, Tryz.ntmps25
  go_wp2
  go_ret2
  exact ⟨rfl, rfl⟩
def newEd (t : ByteArray) : Nib.Ed := ⟨t, 0, 0, 0, ⟨#[]⟩, fun _ => ⟨#[]⟩, fun _ => false, 0, 0, [], [], ⟨#[]⟩, ⟨#[]⟩, false, ⟨#[]⟩, ⟨#[]⟩, ⟨#[]⟩, false⟩
theorem refNew_ok (t : ByteArray) (w : World) (h : t.size ≤ 1000) :
    Calls Tryz.prog 25 #[.string t] w fun r w' => r = .returned (.tuple #[.pointer (some ⟨w.heap.size, 0, none⟩), .int .i64 0]) ∧ EdAt w' w.heap.size (newEd t) (.slice none 0 0) (.slice none 0 0) ∧ Below w.heap.size w w' := by
  have h' : ¬ (1000 : Int) < (t.size : Int) := by omega
  go_enter Tryz.func25, Tryz.ntmps25
  go_wp2
  go_ret2
  refine ⟨rfl, ?_, ?_⟩
  · constructor
    case cS =>
      intro i hi
      have hd : i = 0 ∨ i = 1 ∨ i = 2 ∨ i = 3 ∨ i = 4 ∨ i = 5 ∨ i = 6 ∨ i = 7 ∨ i = 8 ∨ i = 9 ∨ i = 10 ∨ i = 11 ∨ i = 12 ∨ i = 13 ∨ i = 14 ∨ i = 15 ∨ i = 16 ∨ i = 17 ∨ i = 18 ∨ i = 19 ∨ i = 20 ∨ i = 21 ∨ i = 22 ∨ i = 23 ∨ i = 24 ∨ i = 25 ∨ i = 26 := by omega
      rcases hd with rfl | rfl | rfl | rfl | rfl | rfl | rfl | rfl | rfl | rfl | rfl | rfl | rfl | rfl | rfl | rfl | rfl | rfl | rfl | rfl | rfl | rfl | rfl | rfl | rfl | rfl | rfl <;> (simp [go_sem, newEd]; try rfl)
    case cL =>
      intro i hi
      have hd : i = 0 ∨ i = 1 ∨ i = 2 ∨ i = 3 ∨ i = 4 ∨ i = 5 ∨ i = 6 ∨ i = 7 ∨ i = 8 ∨ i = 9 ∨ i = 10 ∨ i = 11 ∨ i = 12 ∨ i = 13 ∨ i = 14 ∨ i = 15 ∨ i = 16 ∨ i = 17 ∨ i = 18 ∨ i = 19 ∨ i = 20 ∨ i = 21 ∨ i = 22 ∨ i = 23 ∨ i = 24 ∨ i = 25 ∨ i = 26 := by omega
      rcases hd with rfl | rfl | rfl | rfl | rfl | rfl | rfl | rfl | rfl | rfl | rfl | rfl | rfl | rfl | rfl | rfl | rfl | rfl | rfl | rfl | rfl | rfl | rfl | rfl | rfl | rfl | rfl <;> (simp [go_sem, newEd]; try rfl)
    all_goals (first | (intro o; simp; done) | (simp [go_sem, newEd]; done) | (simp [go_sem, newEd]; rfl) | rfl)
  · repeat (with_reducible first | exact Below.refl _ _ | refine b_s ?_ _ | refine b_a ?_ _ | refine Below.drew ?_ | refine below_drewN ?_ _)
def anchorOf (e : Nib.Ed) : Int := if e.mode = 2 ∨ e.mode = 3 then (e.anchor : Int) else 0
theorem refState_any (b : Nat) (e : Nib.Ed) (dv uv : Value) (w : World) (h : EdAt w b e dv uv) :
    Calls Tryz.prog 36 #[.pointer (some ⟨b, 0, none⟩)] w fun r w' =>
      r = .returned (.agg #[.string e.t, .int .i64 e.p, .int .i64 (anchorOf e), .int .i64 e.mode, .bool (!(e.keys.toList.isEmpty))]) ∧ Below w.heap.size w w' := by
  have H := h
  obtain ⟨c0, c1, c2, c3, c4, cS, cL, c59, c60, c61, c62, c63, c64, c65, c66, c67, c68, c69, fz, lt⟩ := h
  clear cS cL c59 c60 c61 c62 c63 c64 c65 c66 c67 c68 c69
  have l1 : b < w.heap.size + 1 := by omega
  have l2 : b < w.heap.size + 1 + 1 := by omega
  have l3 : b < w.heap.size + 1 + 1 + 1 := by omega
  have HA : Hid (anchorOf e = if e.mode = 2 ∨ e.mode = 3 then (e.anchor : Int) else 0) := rfl
  generalize anchorOf e = an at *
  go_enter Tryz.func36, Tryz.ntmps36
  go_wp2_with fail
  go_region_held3 (fun ww => ww.cell? ⟨b, 0, none⟩ = some (.string e.t) ∧ ww.cell? ⟨b, 1, none⟩ = some (.int .i64 e.p) ∧ ww.cell? ⟨b, 3, none⟩ = some (.int .i64 e.mode) ∧ ww.cell? ⟨b, 4, none⟩ = some (.string e.keys)) ((refine ⟨?_, ?_, ?_, ?_⟩ <;> go_simp)) (fail)
  by_cases h2 : e.mode = 2
  · have h2' : (e.mode == 2) = true := by simp [h2]
    have HB : Hid (an = (e.anchor : Int)) := by rw [Hid, HA.out, if_pos (Or.inl h2)]
    clear HA h2
    go_wp2
    refine bodyPost_ret (v := .agg #[.string e.t, .int .i64 e.p, .int .i64 e.anchor, .int .i64 e.mode, .bool (!(e.keys.toList.isEmpty))]) (by simp [results, Tryz.results36, go_sem]) rfl ⟨by rw [HB.out], ?_⟩
    repeat (with_reducible first | exact Below.refl _ _ | refine b_s ?_ _ | refine b_a ?_ _ | refine Below.drew ?_ | refine below_drewN ?_ _)
  · have h2' : (e.mode == 2) = false := by simp [h2]
    by_cases h3 : e.mode = 3
    · have h3' : (e.mode == 3) = true := by simp [h3]
      have HB : Hid (an = (e.anchor : Int)) := by rw [Hid, HA.out, if_pos (Or.inr h3)]
      clear HA h2 h3
      go_wp2
      refine bodyPost_ret (v := .agg #[.string e.t, .int .i64 e.p, .int .i64 e.anchor, .int .i64 e.mode, .bool (!(e.keys.toList.isEmpty))]) (by simp [results, Tryz.results36, go_sem]) rfl ⟨by rw [HB.out], ?_⟩
      repeat (with_reducible first | exact Below.refl _ _ | refine b_s ?_ _ | refine b_a ?_ _ | refine Below.drew ?_ | refine below_drewN ?_ _)
    · have h3' : (e.mode == 3) = false := by simp [h3]
      have HB : Hid (an = 0) := by rw [Hid, HA.out, if_neg (by omega)]
      clear HA h2 h3
      go_wp2
      refine bodyPost_ret (v := .agg #[.string e.t, .int .i64 e.p, .int .i64 0, .int .i64 e.mode, .bool (!(e.keys.toList.isEmpty))]) (by simp [results, Tryz.results36, go_sem]) rfl ⟨by rw [HB.out], ?_⟩
      repeat (with_reducible first | exact Below.refl _ _ | refine b_s ?_ _ | refine b_a ?_ _ | refine Below.drew ?_ | refine below_drewN ?_ _)
def regOf (e : Nib.Ed) (c : Int) : ByteArray × Bool := if Nib.slotN c < 0 then (⟨#[]⟩, false) else (e.regS (Nib.slotN c).toNat, e.regL (Nib.slotN c).toNat)
theorem refRegister_any (b : Nat) (e : Nib.Ed) (c : Int) (dv uv : Value) (w : World) (h : EdAt w b e dv uv) (hc0 : 0 ≤ c) (hc1 : c < 256) :
    Calls Tryz.prog 37 #[.pointer (some ⟨b, 0, none⟩), .int .u8 c] w fun r w' =>
      r = .returned (.tuple #[.string (regOf e c).1, .bool (regOf e c).2]) ∧ Below w.heap.size w w' := by
  have H := h
  obtain ⟨_, _, _, _, _, cS, cL, _, _, _, _, _, _, _, _, _, _, _, fz, lt⟩ := h
  have HR : Hid (regOf e c = if Nib.slotN c < 0 then (⟨#[]⟩, false) else (e.regS (Nib.slotN c).toNat, e.regL (Nib.slotN c).toNat)) := rfl
  have hn : Nib.slotN c ≤ 26 ∧ -1 ≤ Nib.slotN c := by unfold Nib.slotN; (repeat' split) <;> omega
  generalize regOf e c = y at *
  by_cases hneg : Nib.slotN c < 0
  · have HB : Hid (y = (⟨#[]⟩, false)) := by rw [Hid, HR.out, if_pos hneg]
    clear HR cS cL
    go_enter Tryz.func37, Tryz.ntmps37
    go_wp2_with fail
    refine (slot_any c _ hc0 hc1).mono ?_
    rintro e w' ⟨rfl, rfl⟩
    go_wp2
    go_ret2
    exact ⟨by rw [HB.out]; rfl, Below.refl _ _⟩
  · obtain ⟨n, hnn⟩ := Int.eq_ofNat_of_zero_le (show 0 ≤ Nib.slotN c by omega)
    have HB : Hid (y = (e.regS n, e.regL n)) := by rw [Hid, HR.out, if_neg hneg, hnn]; rfl
    have e1 := cS n (by omega)
    have e2 := cL n (by omega)
    clear HR cS cL
    have hc := slot_any c w hc0 hc1
    rw [hnn] at hc hn
    have HC : Hid _ := hc
    clear hc hneg hnn
    obtain ⟨hn1, hn2⟩ := hn
    have hn3 : (n : Int) < 27 := by omega
    go_enter Tryz.func37, Tryz.ntmps37
    go_wp2_with fail
    refine Calls.mono HC.out ?_
    rintro r w' ⟨rfl, rfl⟩
    go_wp2_with fail
    go_region_held3 (fun ww => ww.cell? ⟨b, 5 + n * 2, none⟩ = some (.string (e.regS n)) ∧ ww.cell? ⟨b, 5 + n * 2 + 1, none⟩ = some (.bool (e.regL n))) ((refine ⟨?_, ?_⟩ <;> go_simp)) (fail)
    go_wp2
    go_ret2
    exact ⟨by rw [HB.out]; rfl, below_drewN (Below.refl _ _) _⟩
def goesOk (e : Nib.Ed) (x : Nib.Cmd) : Bool := !(Nib.wayOf e x false).2.2
def goesEd (e : Nib.Ed) (x : Nib.Cmd) : Nib.Ed := if (Nib.wayOf e x false).2.2 = true then Nib.wayEd e x else { Nib.wayEd e x with p := Nib.clm e.t (Nib.wayOf e x false).1.toNat }
theorem wayEd_t (e : Nib.Ed) (x : Nib.Cmd) : (Nib.wayEd e x).t = e.t := by unfold Nib.wayEd; split <;> rfl
theorem goes_any (b : Nat) (e : Nib.Ed) (x : Nib.Cmd) (dv uv : Value) (w : World) (h : EdAt w b e dv uv) (hs : e.t.size ≤ 1000) (hp : e.p ≤ e.t.size) (hn1 : 1 ≤ x.n) (hn : x.n ≤ 99)
    (hw : Nib.isWay x.way = true ∨ x.way = 59 ∨ x.way = 44) (hf : findOk e) (hc27 : ¬ x.c = 27) :
    Calls Tryz.prog 70 #[.pointer (some ⟨b, 0, none⟩), .agg #[.bool x.more, .bool x.bad, .int .i64 x.reg, .int .i64 x.n, .bool x.given, .int .u8 x.verb, .bool x.twice, .int .u8 x.object, .bool x.around, .int .u8 x.way, .int .u8 x.other, .int .u8 x.c]] w fun r w' =>
      r = .returned (.bool (goesOk e x)) ∧ EdAt w' b (goesEd e x) dv uv ∧ Upd [b] w w' := by
  have lt := h.lt
  have hc' : (x.c == 27) = false := by simp [hc27]
  have HC : Hid (∀ ww, EdAt ww b e dv uv → Calls Tryz.prog 88 #[.pointer (some ⟨b, 0, none⟩), .agg #[.bool x.more, .bool x.bad, .int .i64 x.reg, .int .i64 x.n, .bool x.given, .int .u8 x.verb, .bool x.twice, .int .u8 x.object, .bool x.around, .int .u8 x.way, .int .u8 x.other, .int .u8 x.c], .bool false] ww fun r w' =>
      r = .returned (.agg #[.int .i64 (Nib.wayOf e x false).1, .int .i64 (Nib.wayOf e x false).2.1, .bool (Nib.wayOf e x false).2.2]) ∧ EdAt w' b (Nib.wayEd e x) dv uv ∧ Upd [b] ww w') :=
    fun ww hh => way_any b e x false dv uv ww hh hs hp hn1 hn hw hf
  have HO : Hid (goesOk e x = !(Nib.wayOf e x false).2.2) := rfl
  have HG : Hid (goesEd e x = if (Nib.wayOf e x false).2.2 = true then Nib.wayEd e x else { Nib.wayEd e x with p := Nib.clm e.t (Nib.wayOf e x false).1.toNat }) := rfl
  have ht := wayEd_t e x
  have HT : Hid ((Nib.wayEd e x).t = e.t) := ht
  have HQ : Hid ((Nib.wayOf e x false).2.2 = false → 0 ≤ (Nib.wayOf e x false).1 ∧ (Nib.wayOf e x false).1 ≤ e.t.size) := fun h => Nib.wayOf_in hp hn1 h
  generalize Nib.wayOf e x false = y at *
  generalize Nib.wayEd e x = e1 at *
  generalize goesOk e x = ok at *
  generalize goesEd e x = e2 at *
  clear ht hc27 hw hn1 hn hp
  go_enter Tryz.func70, Tryz.ntmps70
  go_wp2_with fail
  refine Calls.mono (HC.out _ (h.alloc _)) ?_
  rintro r w1 ⟨rfl, h1, hu1⟩
  have hz1 := hu1.size
  simp at hz1
  obtain ⟨c0, c1, _, _, _, _, _, _, _, _, _, _, _, _, _, _, _, _, fz, lt1⟩ := id h1
  rw [HT.out] at c0
  cases hfl : y.2.2 with
  | true =>
    have HO' : Hid (ok = false) := by rw [Hid, HO.out, hfl]; rfl
    have HG' : Hid (e2 = e1) := by rw [Hid, HG.out, if_pos hfl]
    go_wp2
    go_ret
    refine ⟨by rw [HO'.out]; rfl, ?_, ?_⟩
    · rw [HG'.out]
      repeat (with_reducible first | exact h1 | refine e_o ?_ _ | refine EdAt.alloc ?_ _ | refine EdAt.drewN ?_ _ | refine EdAt.drew ?_)
    · refine Upd.alloc ?_ _
      exact (Upd.alloc (Upd.refl _ _) _).trans hu1
  | false =>
    obtain ⟨hq0, hq1⟩ := HQ.out hfl
    obtain ⟨q, hq⟩ := Int.eq_ofNat_of_zero_le hq0
    have HO' : Hid (ok = true) := by rw [Hid, HO.out, hfl]; rfl
    have HG' : Hid (e2 = { e1 with p := Nib.clm e.t q }) := by rw [Hid, HG.out, if_neg (by simp [hfl]), hq]; rfl
    have hq2 : q ≤ e.t.size := by omega
    have HCl : Hid (∀ ww, Calls Tryz.prog 73 #[.string e.t, .int .i64 y.1] ww fun e' w' => e' = .returned (.int .i64 (Nib.clm e.t q)) ∧ w' = ww) := fun ww => clamp_at e.t y.1 q ww hs hq hq2
    have HP := h1.set_p (Nib.clm e.t q)
    clear hq
    have l1 : b < w1.heap.size + 1 := by omega
    go_wp2_with fail
    go_region_held3 (fun ww => ww.cell? ⟨b, 0, none⟩ = some (.string e.t) ∧ ww.cell? ⟨w1.heap.size, 0, none⟩ = some (.int .i64 y.1)) ((refine ⟨?_, ?_⟩ <;> go_simp)) ((go_at_call 73; refine Calls.mono (HCl.out _) ?_; rintro r w3 ⟨rfl, rfl⟩))
    go_wp2
    go_ret
    refine ⟨by rw [HO'.out]; rfl, ?_, ?_⟩
    · rw [HG'.out]
      repeat (with_reducible first | exact HP | refine e_o ?_ _ | refine EdAt.alloc ?_ _ | refine EdAt.drewN ?_ _ | refine EdAt.drew ?_)
    · refine Upd.trans ((Upd.alloc (Upd.refl _ _) _).trans hu1) ?_
      repeat (with_reducible first | exact Upd.refl _ _ | assumption | refine u_s ?_ _ | refine Upd.alloc ?_ _ | refine Upd.drewN ?_ _ | refine Upd.drew ?_)
end Go.Proofs.YtlendfhehhacpaaGreat
