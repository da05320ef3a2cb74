/- A part. -/
import Derived.Test.YtlendfhehhacpaaGreatP32
set_option linter.unusedVariables false
set_option linter.unusedSimpArgs false
set_option maxRecDepth 100000
set_option maxHeartbeats 8000000
namespace Go.Proofs.YtlendfhehhacpaaGreat
open Go.RowKit
structure PaAt (w W : World) (k : Nat) (s : ByteArray) (p : Int) (wh : Bool) (a b : Int) : Prop where
 g : Tri W w.heap.size s p wh
 q : Tre W (w.heap.size + 1) 0 0 false
 t : Two W k a b
 up : Below w.heap.size w W
 lk : w.heap.size + 1 < k
theorem qt35 {P : Prop} (h : P := by
  have t2 : Two w2 w1.heap.size 0 0 := ⟨nv1_0, nv1_1, nz1, nl1⟩
  refine ⟨Tri.other (Tri.other (((G.drew.below h1).alloc _).below h2) qs _) qs _, Tre.other (Tre.other (((Q.drew.below h1).alloc _).below h2) qs _) qs _, Two.set1 (Two.set0 t2 _) _, ?_, by omega⟩
  have zw := UW0.size
  repeat exact qB
 ) : P := h
theorem qt36 {P : Prop} (h : P := by
  have t2 : Two w2 W0.heap.size 0 0 := ⟨nv0_0, nv0_1, nz0, nl0⟩
  refine ⟨Tri.other (Tri.other (((G.alloc _).drew.below h1).below h2) qs _) qs _, Tre.other (Tre.other (((Q.alloc _).drew.below h1).below h2) qs _) qs _, Two.set1 (Two.set0 t2 _) _, ?_, by omega⟩
  have zw := UW0.size
  repeat exact qB
 ) : P := h
theorem qt61 {P : Prop} (h : P := by
  refine ⟨Tri.alloc ((G.drew.below h1).below h2) _, Tre.alloc ((Q.drew.below h1).below h2) _, Two.new _ _ _ _, ?_, by omega⟩
  have zw := UW0.size
  repeat exact qB
 ) : P := h
theorem oParagraph (s : ByteArray) (p : Nat) (wh : Bool) (hs : s.size ≤ 1000) (hp : p ≤ s.size) : GivesO 217 #[.agg #[.string s, .int .i64 p, .bool wh]] s := by
 have hm := Nib.lin_lt hp
 have HL : qH 195 #[.string s, .int .i64 p] (.agg #[.int .i64 (Nib.att s (Nib.lin s p)), .int .i64 (Nib.fin s (Nib.att s (Nib.lin s p)))]) := by
  intro ww
  have := tLine_any s p p ww hs rfl hp
  rw [Nib.fin_eq hp, Nib.beg_eq hp] at this
  exact this
 obtain ⟨x, y, hx, hy, hyl, HA⟩ := oAlike s (Nib.lin s p) hs hm
 have HA : qH 262 #[.string s, .agg #[.int .i64 (Nib.att s (Nib.lin s p)), .int .i64 (Nib.fin s (Nib.att s (Nib.lin s p)))]] (.agg #[.int .i64 (Nib.att s x), .int .i64 (Nib.fin s (Nib.att s y))]) := HA
 have hxl : x < Nib.lns s := by omega
 have a1 := (Nib.att_in hxl).1
 have a2 := (Nib.att_in hyl).1
 have a3 := Nib.fin_le a2
 have a4 := Nib.fin_ge s (Nib.att s y)
 have a5 := att_monoO s x (y - x)
 rw [show x + (y - x) = y by omega] at a5
 generalize Nib.att s (Nib.lin s p) = A0 at *
 generalize Nib.fin s A0 = B0 at *
 have hix0 : ∀ ww : World, (Instr.index 127 (.agg #[.int .i64 1, .int .i64 (-1)]) (.int .i64 0)).run Tryz.prog ww = .ok (.int .i64 1) ww := fun _ => by kernel_rfl
 have hix1 : ∀ ww : World, (Instr.index 127 (.agg #[.int .i64 1, .int .i64 (-1)]) (.int .i64 1)).run Tryz.prog ww = .ok (.int .i64 (-1)) ww := fun _ => by kernel_rfl
 obtain ⟨D1, D2, hD, HBd⟩ := tBes_dn s (Nib.att s x) y hs hyl
 obtain ⟨E1, E2, hE, HBu⟩ := tBes_up s (Nib.fin s (Nib.att s y)) x hs hxl
 have HBd : qH 223 #[.string s, .agg #[.int .i64 (Nib.att s x), .int .i64 (Nib.fin s (Nib.att s y))], .int .i64 1] (.tuple #[.agg #[.int .i64 (D1), .int .i64 (D2)], .bool (decide (y + 1 < Nib.lns s))]) := HBd
 have HBu : qH 223 #[.string s, .agg #[.int .i64 (Nib.att s x), .int .i64 (Nib.fin s (Nib.att s y))], .int .i64 (-1)] (.tuple #[.agg #[.int .i64 (E1), .int .i64 (E2)], .bool (decide (0 < x))]) := HBu
 cases wh with
 | false =>
  refine ⟨Nib.att s x, Nib.fin s (Nib.att s y), true, true, by omega, by omega, fun w => ?_⟩
  generalize Nib.att s x = AX at *
  generalize Nib.fin s (Nib.att s y) = FY at *
  clear HBd HBu hD hE
  go_enter Tryz.func217, Tryz.ntmps217
  go_wp2_with fail
  have G : Tri ((w.alloc (.cells #[.string s, .int .i64 p, .bool false] 213)).alloc (.cells #[.int .i64 0, .int .i64 0, .bool false] 186)) w.heap.size s p false := Tri.alloc (Tri.new _ _ _ _ _) _
  have Q : Tre ((w.alloc (.cells #[.string s, .int .i64 p, .bool false] 213)).alloc (.cells #[.int .i64 0, .int .i64 0, .bool false] 186)) (w.heap.size + 1) 0 0 false := by have := Tre.new (w.alloc (.cells #[.string s, .int .i64 p, .bool false] 213)) 0 0 false 186; simpa using this
  have hW0 : w.heap.size + 1 < ((w.alloc (.cells #[.string s, .int .i64 p, .bool false] 213)).alloc (.cells #[.int .i64 0, .int .i64 0, .bool false] 186)).heap.size := by simp
  have UW0 : Below w.heap.size w ((w.alloc (.cells #[.string s, .int .i64 p, .bool false] 213)).alloc (.cells #[.int .i64 0, .int .i64 0, .bool false] 186)) := by
   repeat exact qB
  generalize ((w.alloc (.cells #[.string s, .int .i64 p, .bool false] 213)).alloc (.cells #[.int .i64 0, .int .i64 0, .bool false] 186)) = W0 at *
  have gg0 := G.c0; have gg1 := G.c1
  go_wp2_with fail
  go_region_held3 (fun ww => ww.cell? ⟨w.heap.size, 0, none⟩ = some (.string s) ∧ ww.cell? ⟨w.heap.size, 1, none⟩ = some (.int .i64 p)) (exact qK) (first | (go_at_call 195; with_reducible refine Calls.mono (HL.out (W0.alloc (.cells #[.int .i64 0, .int .i64 0] 128)).drew) ?_; rintro r1 w1 ⟨rfl, h1⟩; have hz1 := h1.size; (try simp at hz1); (try have ⟨hl1_0, hk1_0⟩ := qL w.heap.size w1.heap.size); have nv0_0 : w1.cell? ⟨W0.heap.size, 0, none⟩ = some (.int .i64 0) := ((bcell h1).1 _ _ qO).trans qi; have nv0_1 : w1.cell? ⟨W0.heap.size, 1, none⟩ = some (.int .i64 0) := ((bcell h1).1 _ _ qO).trans qi; have nz0 : ∀ o, w1.frozen? ⟨W0.heap.size, o, none⟩ = false := fun o => ((bcell h1).2 _ o qO).trans qi; have nl0 : W0.heap.size < w1.heap.size := qo) | (go_at_call 195; with_reducible refine Calls.mono (HL.out W0.drew) ?_; rintro r1 w1 ⟨rfl, h1⟩; have hz1 := h1.size; (try simp at hz1); (try have ⟨hl1_0, hk1_0⟩ := qL w.heap.size w1.heap.size)) | (go_at_call 262; with_reducible refine Calls.mono (HA.out (w1.alloc (.cells #[.int .i64 0, .int .i64 0] 128))) ?_; rintro r2 w2 ⟨rfl, h2⟩; have hz2 := h2.size; (try simp at hz2); (try have ⟨hl2_0, hk2_0⟩ := qL w.heap.size w2.heap.size); (try have nv0_0 := memLater h2 nv0_0); (try have nv0_1 := memLater h2 nv0_1); (try have nz0 : ∀ o, w2.frozen? ⟨W0.heap.size, o, none⟩ = false := fun o => ((bcell h2).2 _ o qO).trans (nz0 o)); (try have nl0 : W0.heap.size < w2.heap.size := qo); have nv1_0 : w2.cell? ⟨w1.heap.size, 0, none⟩ = some (.int .i64 0) := ((bcell h2).1 _ _ qO).trans qi; have nv1_1 : w2.cell? ⟨w1.heap.size, 1, none⟩ = some (.int .i64 0) := ((bcell h2).1 _ _ qO).trans qi; have nz1 : ∀ o, w2.frozen? ⟨w1.heap.size, o, none⟩ = false := fun o => ((bcell h2).2 _ o qO).trans qi; have nl1 : w1.heap.size < w2.heap.size := qo) | (go_at_call 262; with_reducible refine Calls.mono (HA.out w1) ?_; rintro r2 w2 ⟨rfl, h2⟩; have hz2 := h2.size; (try simp at hz2); (try have ⟨hl2_0, hk2_0⟩ := qL w.heap.size w2.heap.size); (try have nv0_0 := memLater h2 nv0_0); (try have nv0_1 := memLater h2 nv0_1); (try have nz0 : ∀ o, w2.frozen? ⟨W0.heap.size, o, none⟩ = false := fun o => ((bcell h2).2 _ o qO).trans (nz0 o)); (try have nl0 : W0.heap.size < w2.heap.size := qo)))
  have E : PaAt w (w2.alloc (.cells #[.int .i64 AX, .int .i64 FY] 128)) w2.heap.size s p false AX FY := by
   exact qt61
  generalize (w2.alloc (.cells #[.int .i64 AX, .int .i64 FY] 128)) = W at *
  generalize w2.heap.size = k at *
  rotate_left
  have E : PaAt w ((w2.setCell ⟨w1.heap.size, 0, none⟩ (.int .i64 AX)).setCell ⟨w1.heap.size, 1, none⟩ (.int .i64 FY)) w1.heap.size s p false AX FY := by
   exact qt35
  generalize ((w2.setCell ⟨w1.heap.size, 0, none⟩ (.int .i64 AX)).setCell ⟨w1.heap.size, 1, none⟩ (.int .i64 FY)) = W at *
  generalize w1.heap.size = k at *
  rotate_left
  have E : PaAt w ((w2.setCell ⟨W0.heap.size, 0, none⟩ (.int .i64 AX)).setCell ⟨W0.heap.size, 1, none⟩ (.int .i64 FY)) W0.heap.size s p false AX FY := by
   exact qt36
  generalize ((w2.setCell ⟨W0.heap.size, 0, none⟩ (.int .i64 AX)).setCell ⟨W0.heap.size, 1, none⟩ (.int .i64 FY)) = W at *
  generalize W0.heap.size = k at *
  rotate_left
  all_goals
   obtain ⟨G, Q, T, up, lk⟩ := E
   have zu := up.size
   have g0 := G.c0; have g1 := G.c1; have g2 := G.c2
   have t0 := T.c0; have t1 := T.c1; have tl := T.lt
   have ⟨q0, q1, q2, qz, ql⟩ := Q
   go_wp2
   exact qV (.tuple #[.agg #[.int .i64 AX, .int .i64 FY, .bool true], .bool true]) (by simp [results, Tryz.results217, go_sem, q0, q1, q2, qz, ql]) rfl
 | true =>
  by_cases hc : y + 1 < Nib.lns s
  ·obtain ⟨eD1, eD2⟩ := hD hc
   rw [decide_eq_true hc] at HBd
   obtain ⟨x2, y2, hx2, hy2, hyl2, HA2⟩ := oAlike s (y + 1) hs hc
   rw [← eD1, ← eD2] at HA2
   have HA2 : qH 262 #[.string s, .agg #[.int .i64 (D1), .int .i64 (D2)]] (.agg #[.int .i64 (Nib.att s x2), .int .i64 (Nib.fin s (Nib.att s y2))]) := HA2
   have HJ : qH 196 #[.agg #[.int .i64 (Nib.att s x), .int .i64 (Nib.fin s (Nib.att s y))], .agg #[.int .i64 (Nib.att s x2), .int .i64 (Nib.fin s (Nib.att s y2))]] (.agg #[.int .i64 (((min (Nib.att s x) (Nib.att s x2) : Nat) : Int)), .int .i64 (((max (Nib.fin s (Nib.att s y)) (Nib.fin s (Nib.att s y2)) : Nat) : Int))]) := fun ww => tJoin_nat _ _ _ _ ww
   have b1 := (Nib.att_in hyl2).1
   have b2 := Nib.fin_le b1
   refine ⟨min (Nib.att s x) (Nib.att s x2), max (Nib.fin s (Nib.att s y)) (Nib.fin s (Nib.att s y2)), true, true, by omega, by omega, fun w => ?_⟩
   generalize ((min (Nib.att s x) (Nib.att s x2) : Nat) : Int) = U at *
   generalize ((max (Nib.fin s (Nib.att s y)) (Nib.fin s (Nib.att s y2)) : Nat) : Int) = V at *
   generalize Nib.att s x2 = A9 at *
   generalize Nib.fin s (Nib.att s y2) = B9 at *
   clear a5 b1 b2 eD1 eD2 hD hE HBu
   generalize Nib.att s x = AX at *
   generalize Nib.fin s (Nib.att s y) = FY at *
   go_enter Tryz.func217, Tryz.ntmps217
   go_wp2_with fail
   have G : Tri ((w.alloc (.cells #[.string s, .int .i64 p, .bool true] 213)).alloc (.cells #[.int .i64 0, .int .i64 0, .bool false] 186)) w.heap.size s p true := Tri.alloc (Tri.new _ _ _ _ _) _
   have Q : Tre ((w.alloc (.cells #[.string s, .int .i64 p, .bool true] 213)).alloc (.cells #[.int .i64 0, .int .i64 0, .bool false] 186)) (w.heap.size + 1) 0 0 false := by have := Tre.new (w.alloc (.cells #[.string s, .int .i64 p, .bool true] 213)) 0 0 false 186; simpa using this
   have hW0 : w.heap.size + 1 < ((w.alloc (.cells #[.string s, .int .i64 p, .bool true] 213)).alloc (.cells #[.int .i64 0, .int .i64 0, .bool false] 186)).heap.size := by simp
   have UW0 : Below w.heap.size w ((w.alloc (.cells #[.string s, .int .i64 p, .bool true] 213)).alloc (.cells #[.int .i64 0, .int .i64 0, .bool false] 186)) := by
    repeat exact qB
   generalize ((w.alloc (.cells #[.string s, .int .i64 p, .bool true] 213)).alloc (.cells #[.int .i64 0, .int .i64 0, .bool false] 186)) = W0 at *
   have gg0 := G.c0; have gg1 := G.c1
   go_wp2_with fail
   go_region_held3 (fun ww => ww.cell? ⟨w.heap.size, 0, none⟩ = some (.string s) ∧ ww.cell? ⟨w.heap.size, 1, none⟩ = some (.int .i64 p)) (exact qK) (first | (go_at_call 195; with_reducible refine Calls.mono (HL.out (W0.alloc (.cells #[.int .i64 0, .int .i64 0] 128)).drew) ?_; rintro r1 w1 ⟨rfl, h1⟩; have hz1 := h1.size; (try simp at hz1); (try have ⟨hl1_0, hk1_0⟩ := qL w.heap.size w1.heap.size); have nv0_0 : w1.cell? ⟨W0.heap.size, 0, none⟩ = some (.int .i64 0) := ((bcell h1).1 _ _ qO).trans qi; have nv0_1 : w1.cell? ⟨W0.heap.size, 1, none⟩ = some (.int .i64 0) := ((bcell h1).1 _ _ qO).trans qi; have nz0 : ∀ o, w1.frozen? ⟨W0.heap.size, o, none⟩ = false := fun o => ((bcell h1).2 _ o qO).trans qi; have nl0 : W0.heap.size < w1.heap.size := qo) | (go_at_call 195; with_reducible refine Calls.mono (HL.out W0.drew) ?_; rintro r1 w1 ⟨rfl, h1⟩; have hz1 := h1.size; (try simp at hz1); (try have ⟨hl1_0, hk1_0⟩ := qL w.heap.size w1.heap.size)) | (go_at_call 262; with_reducible refine Calls.mono (HA.out (w1.alloc (.cells #[.int .i64 0, .int .i64 0] 128))) ?_; rintro r2 w2 ⟨rfl, h2⟩; have hz2 := h2.size; (try simp at hz2); (try have ⟨hl2_0, hk2_0⟩ := qL w.heap.size w2.heap.size); (try have nv0_0 := memLater h2 nv0_0); (try have nv0_1 := memLater h2 nv0_1); (try have nz0 : ∀ o, w2.frozen? ⟨W0.heap.size, o, none⟩ = false := fun o => ((bcell h2).2 _ o qO).trans (nz0 o)); (try have nl0 : W0.heap.size < w2.heap.size := qo); have nv1_0 : w2.cell? ⟨w1.heap.size, 0, none⟩ = some (.int .i64 0) := ((bcell h2).1 _ _ qO).trans qi; have nv1_1 : w2.cell? ⟨w1.heap.size, 1, none⟩ = some (.int .i64 0) := ((bcell h2).1 _ _ qO).trans qi; have nz1 : ∀ o, w2.frozen? ⟨w1.heap.size, o, none⟩ = false := fun o => ((bcell h2).2 _ o qO).trans qi; have nl1 : w1.heap.size < w2.heap.size := qo) | (go_at_call 262; with_reducible refine Calls.mono (HA.out w1) ?_; rintro r2 w2 ⟨rfl, h2⟩; have hz2 := h2.size; (try simp at hz2); (try have ⟨hl2_0, hk2_0⟩ := qL w.heap.size w2.heap.size); (try have nv0_0 := memLater h2 nv0_0); (try have nv0_1 := memLater h2 nv0_1); (try have nz0 : ∀ o, w2.frozen? ⟨W0.heap.size, o, none⟩ = false := fun o => ((bcell h2).2 _ o qO).trans (nz0 o)); (try have nl0 : W0.heap.size < w2.heap.size := qo)))
   have E : PaAt w (w2.alloc (.cells #[.int .i64 AX, .int .i64 FY] 128)) w2.heap.size s p true AX FY := by
    exact qt61
   generalize (w2.alloc (.cells #[.int .i64 AX, .int .i64 FY] 128)) = W at *
   generalize w2.heap.size = k at *
   rotate_left
   have E : PaAt w ((w2.setCell ⟨w1.heap.size, 0, none⟩ (.int .i64 AX)).setCell ⟨w1.heap.size, 1, none⟩ (.int .i64 FY)) w1.heap.size s p true AX FY := by
    exact qt35
   generalize ((w2.setCell ⟨w1.heap.size, 0, none⟩ (.int .i64 AX)).setCell ⟨w1.heap.size, 1, none⟩ (.int .i64 FY)) = W at *
   generalize w1.heap.size = k at *
   rotate_left
   have E : PaAt w ((w2.setCell ⟨W0.heap.size, 0, none⟩ (.int .i64 AX)).setCell ⟨W0.heap.size, 1, none⟩ (.int .i64 FY)) W0.heap.size s p true AX FY := by
    exact qt36
   generalize ((w2.setCell ⟨W0.heap.size, 0, none⟩ (.int .i64 AX)).setCell ⟨W0.heap.size, 1, none⟩ (.int .i64 FY)) = W at *
   generalize W0.heap.size = k at *
   rotate_left
   all_goals
    obtain ⟨G, Q, T, up, lk⟩ := E
    have zu := up.size
    have g0 := G.c0; have g1 := G.c1; have g2 := G.c2
    have t0 := T.c0; have t1 := T.c1; have tl := T.lt
    have ⟨q0, q1, q2, qz, ql⟩ := Q
    go_wp2_with fail
    refine wp_loop_rounds 3 ?_
    rw [rounds_succ]
    go_wp2_with fail
    refine (HBd.out _).mono ?_
    rintro r3 w3 ⟨rfl, h3⟩
    obtain ⟨hc3, hf3, hz3⟩ := qb h3
    (try simp at hz3)
    have G3 : Tri w3 (w.heap.size) (s) (p) (true) := qTi
    have ⟨G3_0, G3_1, G3_2, G3_z, G3_l⟩ := G3
    have Q3 : Tre w3 (w.heap.size + 1) (0) (0) (false) := qTe
    have ⟨Q3_0, Q3_1, Q3_2, Q3_z, Q3_l⟩ := Q3
    have T3 : Two w3 (k) (AX) (FY) := qTw
    have ⟨T3_0, T3_1, T3_z, T3_l⟩ := T3
    clear hc3 hf3
    have N9 : Two (w3.alloc (.cells #[.int .i64 D1, .int .i64 D2] 128)) w3.heap.size D1 D2 := Two.new _ _ _ _
    have G9 := G3.alloc (.cells #[.int .i64 D1, .int .i64 D2] 128)
    have Q9 := Q3.alloc (.cells #[.int .i64 D1, .int .i64 D2] 128)
    have T9 := T3.alloc (.cells #[.int .i64 D1, .int .i64 D2] 128)
    have n0 := N9.c0; have n1 := N9.c1; have s0 := T9.c0; have s1 := T9.c1; have v0 := G9.c0
    have c0 := Q9.c0; have c1 := Q9.c1; have c2 := Q9.c2; have cz := Q9.fz
    go_wp2_with fail
    go_region_held3 (fun ww => ww.cell? ⟨k, 0, none⟩ = some (.int .i64 AX) ∧ ww.cell? ⟨k, 1, none⟩ = some (.int .i64 FY) ∧ ww.cell? ⟨w.heap.size, 0, none⟩ = some (.string s) ∧ ww.cell? ⟨w3.heap.size, 0, none⟩ = some (.int .i64 D1) ∧ ww.cell? ⟨w3.heap.size, 1, none⟩ = some (.int .i64 D2)) (exact qK) (first | (go_at_call 262; refine Calls.mono (HA2.out _) ?_; rintro r5 w5 ⟨rfl, h5⟩; have hz5 := h5.size; (try simp at hz5); (try have ⟨hl5_0, hk5_0⟩ := qL k w5.heap.size); (try have ⟨hl5_1, hk5_1⟩ := qL w.heap.size w5.heap.size); (try have ⟨hl5_2, hk5_2⟩ := qL w3.heap.size w5.heap.size); obtain ⟨hc5, hf5⟩ := bcell h5; have hb5_0 := fun o => hc5 (w.heap.size + 1) o qO; have fb5_0 := fun o => hf5 (w.heap.size + 1) o qO; (try have hg5_0 : w.heap.size + 1 < w5.heap.size := qo); clear hc5 hf5) | (go_at_call 196; refine Calls.mono (HJ.out _) ?_; rintro r6 w6 ⟨rfl, h6⟩; have hz6 := h6.size; (try simp at hz6); (try have ⟨hl6_0, hk6_0⟩ := qL k w6.heap.size); (try have ⟨hl6_1, hk6_1⟩ := qL w.heap.size w6.heap.size); (try have ⟨hl6_2, hk6_2⟩ := qL w3.heap.size w6.heap.size); obtain ⟨hc6, hf6⟩ := bcell h6; have hb6_0 := fun o => hc6 (w.heap.size + 1) o qO; have fb6_0 := fun o => hf6 (w.heap.size + 1) o qO; (try have hg6_0 : w.heap.size + 1 < w6.heap.size := qo); clear hc6 hf6))
    go_wp2
    (try rw [Exit.noGoto_ret])
    exact qV (.tuple #[.agg #[.int .i64 U, .int .i64 V, .bool true], .bool true]) (by simp [results, Tryz.results217, go_sem, hb6_0, hb5_0, fb6_0, fb5_0, c0, c1, c2, cz]) rfl
  ·rw [decide_eq_false hc] at HBd
   by_cases hc2 : 0 < x
   ·obtain ⟨eE1, eE2⟩ := hE hc2
    rw [decide_eq_true hc2] at HBu
    obtain ⟨x2, y2, hx2, hy2, hyl2, HA2⟩ := oAlike s (x - 1) hs qo
    rw [← eE1, ← eE2] at HA2
    have HA2 : qH 262 #[.string s, .agg #[.int .i64 (E1), .int .i64 (E2)]] (.agg #[.int .i64 (Nib.att s x2), .int .i64 (Nib.fin s (Nib.att s y2))]) := HA2
    have HJ : qH 196 #[.agg #[.int .i64 (Nib.att s x), .int .i64 (Nib.fin s (Nib.att s y))], .agg #[.int .i64 (Nib.att s x2), .int .i64 (Nib.fin s (Nib.att s y2))]] (.agg #[.int .i64 (((min (Nib.att s x) (Nib.att s x2) : Nat) : Int)), .int .i64 (((max (Nib.fin s (Nib.att s y)) (Nib.fin s (Nib.att s y2)) : Nat) : Int))]) := fun ww => tJoin_nat _ _ _ _ ww
    have b1 := (Nib.att_in hyl2).1
    have b2 := Nib.fin_le b1
    refine ⟨min (Nib.att s x) (Nib.att s x2), max (Nib.fin s (Nib.att s y)) (Nib.fin s (Nib.att s y2)), true, true, by omega, by omega, fun w => ?_⟩
    generalize ((min (Nib.att s x) (Nib.att s x2) : Nat) : Int) = U at *
    generalize ((max (Nib.fin s (Nib.att s y)) (Nib.fin s (Nib.att s y2)) : Nat) : Int) = V at *
    generalize Nib.att s x2 = A9 at *
    generalize Nib.fin s (Nib.att s y2) = B9 at *
    clear a5 b1 b2 eE1 eE2 hD hE
    generalize Nib.att s x = AX at *
    generalize Nib.fin s (Nib.att s y) = FY at *
    go_enter Tryz.func217, Tryz.ntmps217
    go_wp2_with fail
    have G : Tri ((w.alloc (.cells #[.string s, .int .i64 p, .bool true] 213)).alloc (.cells #[.int .i64 0, .int .i64 0, .bool false] 186)) w.heap.size s p true := Tri.alloc (Tri.new _ _ _ _ _) _
    have Q : Tre ((w.alloc (.cells #[.string s, .int .i64 p, .bool true] 213)).alloc (.cells #[.int .i64 0, .int .i64 0, .bool false] 186)) (w.heap.size + 1) 0 0 false := by have := Tre.new (w.alloc (.cells #[.string s, .int .i64 p, .bool true] 213)) 0 0 false 186; simpa using this
    have hW0 : w.heap.size + 1 < ((w.alloc (.cells #[.string s, .int .i64 p, .bool true] 213)).alloc (.cells #[.int .i64 0, .int .i64 0, .bool false] 186)).heap.size := by simp
    have UW0 : Below w.heap.size w ((w.alloc (.cells #[.string s, .int .i64 p, .bool true] 213)).alloc (.cells #[.int .i64 0, .int .i64 0, .bool false] 186)) := by
     repeat exact qB
    generalize ((w.alloc (.cells #[.string s, .int .i64 p, .bool true] 213)).alloc (.cells #[.int .i64 0, .int .i64 0, .bool false] 186)) = W0 at *
    have gg0 := G.c0; have gg1 := G.c1
    go_wp2_with fail
    go_region_held3 (fun ww => ww.cell? ⟨w.heap.size, 0, none⟩ = some (.string s) ∧ ww.cell? ⟨w.heap.size, 1, none⟩ = some (.int .i64 p)) (exact qK) (first | (go_at_call 195; with_reducible refine Calls.mono (HL.out (W0.alloc (.cells #[.int .i64 0, .int .i64 0] 128)).drew) ?_; rintro r1 w1 ⟨rfl, h1⟩; have hz1 := h1.size; (try simp at hz1); (try have ⟨hl1_0, hk1_0⟩ := qL w.heap.size w1.heap.size); have nv0_0 : w1.cell? ⟨W0.heap.size, 0, none⟩ = some (.int .i64 0) := ((bcell h1).1 _ _ qO).trans qi; have nv0_1 : w1.cell? ⟨W0.heap.size, 1, none⟩ = some (.int .i64 0) := ((bcell h1).1 _ _ qO).trans qi; have nz0 : ∀ o, w1.frozen? ⟨W0.heap.size, o, none⟩ = false := fun o => ((bcell h1).2 _ o qO).trans qi; have nl0 : W0.heap.size < w1.heap.size := qo) | (go_at_call 195; with_reducible refine Calls.mono (HL.out W0.drew) ?_; rintro r1 w1 ⟨rfl, h1⟩; have hz1 := h1.size; (try simp at hz1); (try have ⟨hl1_0, hk1_0⟩ := qL w.heap.size w1.heap.size)) | (go_at_call 262; with_reducible refine Calls.mono (HA.out (w1.alloc (.cells #[.int .i64 0, .int .i64 0] 128))) ?_; rintro r2 w2 ⟨rfl, h2⟩; have hz2 := h2.size; (try simp at hz2); (try have ⟨hl2_0, hk2_0⟩ := qL w.heap.size w2.heap.size); (try have nv0_0 := memLater h2 nv0_0); (try have nv0_1 := memLater h2 nv0_1); (try have nz0 : ∀ o, w2.frozen? ⟨W0.heap.size, o, none⟩ = false := fun o => ((bcell h2).2 _ o qO).trans (nz0 o)); (try have nl0 : W0.heap.size < w2.heap.size := qo); have nv1_0 : w2.cell? ⟨w1.heap.size, 0, none⟩ = some (.int .i64 0) := ((bcell h2).1 _ _ qO).trans qi; have nv1_1 : w2.cell? ⟨w1.heap.size, 1, none⟩ = some (.int .i64 0) := ((bcell h2).1 _ _ qO).trans qi; have nz1 : ∀ o, w2.frozen? ⟨w1.heap.size, o, none⟩ = false := fun o => ((bcell h2).2 _ o qO).trans qi; have nl1 : w1.heap.size < w2.heap.size := qo) | (go_at_call 262; with_reducible refine Calls.mono (HA.out w1) ?_; rintro r2 w2 ⟨rfl, h2⟩; have hz2 := h2.size; (try simp at hz2); (try have ⟨hl2_0, hk2_0⟩ := qL w.heap.size w2.heap.size); (try have nv0_0 := memLater h2 nv0_0); (try have nv0_1 := memLater h2 nv0_1); (try have nz0 : ∀ o, w2.frozen? ⟨W0.heap.size, o, none⟩ = false := fun o => ((bcell h2).2 _ o qO).trans (nz0 o)); (try have nl0 : W0.heap.size < w2.heap.size := qo)))
    have E : PaAt w (w2.alloc (.cells #[.int .i64 AX, .int .i64 FY] 128)) w2.heap.size s p true AX FY := by
     exact qt61
    generalize (w2.alloc (.cells #[.int .i64 AX, .int .i64 FY] 128)) = W at *
    generalize w2.heap.size = k at *
    rotate_left
    have E : PaAt w ((w2.setCell ⟨w1.heap.size, 0, none⟩ (.int .i64 AX)).setCell ⟨w1.heap.size, 1, none⟩ (.int .i64 FY)) w1.heap.size s p true AX FY := by
     exact qt35
    generalize ((w2.setCell ⟨w1.heap.size, 0, none⟩ (.int .i64 AX)).setCell ⟨w1.heap.size, 1, none⟩ (.int .i64 FY)) = W at *
    generalize w1.heap.size = k at *
    rotate_left
    have E : PaAt w ((w2.setCell ⟨W0.heap.size, 0, none⟩ (.int .i64 AX)).setCell ⟨W0.heap.size, 1, none⟩ (.int .i64 FY)) W0.heap.size s p true AX FY := by
     exact qt36
    generalize ((w2.setCell ⟨W0.heap.size, 0, none⟩ (.int .i64 AX)).setCell ⟨W0.heap.size, 1, none⟩ (.int .i64 FY)) = W at *
    generalize W0.heap.size = k at *
    rotate_left
    all_goals
     obtain ⟨G, Q, T, up, lk⟩ := E
     have zu := up.size
     have g0 := G.c0; have g1 := G.c1; have g2 := G.c2
     have t0 := T.c0; have t1 := T.c1; have tl := T.lt
     have ⟨q0, q1, q2, qz, ql⟩ := Q
     go_wp2_with fail
     refine wp_loop_rounds 3 ?_
     rw [rounds_succ]
     go_wp2_with fail
     refine (HBd.out _).mono ?_
     rintro r3 w3 ⟨rfl, h3⟩
     obtain ⟨hc3, hf3, hz3⟩ := qb h3
     (try simp at hz3)
     have G3 : Tri w3 (w.heap.size) (s) (p) (true) := qTi
     have ⟨G3_0, G3_1, G3_2, G3_z, G3_l⟩ := G3
     have Q3 : Tre w3 (w.heap.size + 1) (0) (0) (false) := qTe
     have ⟨Q3_0, Q3_1, Q3_2, Q3_z, Q3_l⟩ := Q3
     have T3 : Two w3 (k) (AX) (FY) := qTw
     have ⟨T3_0, T3_1, T3_z, T3_l⟩ := T3
     clear hc3 hf3
     go_wp2_with fail
     rw [rounds_succ]
     go_wp2_with fail
     refine (HBu.out _).mono ?_
     rintro r4 w4 ⟨rfl, h4⟩
     obtain ⟨hc4, hf4, hz4⟩ := qb h4
     (try simp at hz4)
     have G4 : Tri w4 (w.heap.size) (s) (p) (true) := qTi
     have ⟨G4_0, G4_1, G4_2, G4_z, G4_l⟩ := G4
     have Q4 : Tre w4 (w.heap.size + 1) (0) (0) (false) := qTe
     have ⟨Q4_0, Q4_1, Q4_2, Q4_z, Q4_l⟩ := Q4
     have T4 : Two w4 (k) (AX) (FY) := qTw
     have ⟨T4_0, T4_1, T4_z, T4_l⟩ := T4
     clear hc4 hf4
     have N9 : Two (w4.alloc (.cells #[.int .i64 E1, .int .i64 E2] 128)) w4.heap.size E1 E2 := Two.new _ _ _ _
     have G9 := G4.alloc (.cells #[.int .i64 E1, .int .i64 E2] 128)
     have Q9 := Q4.alloc (.cells #[.int .i64 E1, .int .i64 E2] 128)
     have T9 := T4.alloc (.cells #[.int .i64 E1, .int .i64 E2] 128)
     have n0 := N9.c0; have n1 := N9.c1; have s0 := T9.c0; have s1 := T9.c1; have v0 := G9.c0
     have c0 := Q9.c0; have c1 := Q9.c1; have c2 := Q9.c2; have cz := Q9.fz
     go_wp2_with fail
     go_region_held3 (fun ww => ww.cell? ⟨k, 0, none⟩ = some (.int .i64 AX) ∧ ww.cell? ⟨k, 1, none⟩ = some (.int .i64 FY) ∧ ww.cell? ⟨w.heap.size, 0, none⟩ = some (.string s) ∧ ww.cell? ⟨w4.heap.size, 0, none⟩ = some (.int .i64 E1) ∧ ww.cell? ⟨w4.heap.size, 1, none⟩ = some (.int .i64 E2)) (exact qK) (first | (go_at_call 262; refine Calls.mono (HA2.out _) ?_; rintro r5 w5 ⟨rfl, h5⟩; have hz5 := h5.size; (try simp at hz5); (try have ⟨hl5_0, hk5_0⟩ := qL k w5.heap.size); (try have ⟨hl5_1, hk5_1⟩ := qL w.heap.size w5.heap.size); (try have ⟨hl5_2, hk5_2⟩ := qL w4.heap.size w5.heap.size); obtain ⟨hc5, hf5⟩ := bcell h5; have hb5_0 := fun o => hc5 (w.heap.size + 1) o qO; have fb5_0 := fun o => hf5 (w.heap.size + 1) o qO; (try have hg5_0 : w.heap.size + 1 < w5.heap.size := qo); clear hc5 hf5) | (go_at_call 196; refine Calls.mono (HJ.out _) ?_; rintro r6 w6 ⟨rfl, h6⟩; have hz6 := h6.size; (try simp at hz6); (try have ⟨hl6_0, hk6_0⟩ := qL k w6.heap.size); (try have ⟨hl6_1, hk6_1⟩ := qL w.heap.size w6.heap.size); (try have ⟨hl6_2, hk6_2⟩ := qL w4.heap.size w6.heap.size); obtain ⟨hc6, hf6⟩ := bcell h6; have hb6_0 := fun o => hc6 (w.heap.size + 1) o qO; have fb6_0 := fun o => hf6 (w.heap.size + 1) o qO; (try have hg6_0 : w.heap.size + 1 < w6.heap.size := qo); clear hc6 hf6))
     go_wp2
     (try rw [Exit.noGoto_ret])
     exact qV (.tuple #[.agg #[.int .i64 U, .int .i64 V, .bool true], .bool true]) (by simp [results, Tryz.results217, go_sem, hb6_0, hb5_0, fb6_0, fb5_0, c0, c1, c2, cz]) rfl
   ·rw [decide_eq_false hc2] at HBu
    refine ⟨0, 0, false, false, Nat.le_refl _, Nat.zero_le _, fun w => ?_⟩
    clear a5 hD hE
    generalize Nib.att s x = AX at *
    generalize Nib.fin s (Nib.att s y) = FY at *
    go_enter Tryz.func217, Tryz.ntmps217
    go_wp2_with fail
    have G : Tri ((w.alloc (.cells #[.string s, .int .i64 p, .bool true] 213)).alloc (.cells #[.int .i64 0, .int .i64 0, .bool false] 186)) w.heap.size s p true := Tri.alloc (Tri.new _ _ _ _ _) _
    have Q : Tre ((w.alloc (.cells #[.string s, .int .i64 p, .bool true] 213)).alloc (.cells #[.int .i64 0, .int .i64 0, .bool false] 186)) (w.heap.size + 1) 0 0 false := by have := Tre.new (w.alloc (.cells #[.string s, .int .i64 p, .bool true] 213)) 0 0 false 186; simpa using this
    have hW0 : w.heap.size + 1 < ((w.alloc (.cells #[.string s, .int .i64 p, .bool true] 213)).alloc (.cells #[.int .i64 0, .int .i64 0, .bool false] 186)).heap.size := by simp
    have UW0 : Below w.heap.size w ((w.alloc (.cells #[.string s, .int .i64 p, .bool true] 213)).alloc (.cells #[.int .i64 0, .int .i64 0, .bool false] 186)) := by
     repeat exact qB
    generalize ((w.alloc (.cells #[.string s, .int .i64 p, .bool true] 213)).alloc (.cells #[.int .i64 0, .int .i64 0, .bool false] 186)) = W0 at *
    have gg0 := G.c0; have gg1 := G.c1
    go_wp2_with fail
    go_region_held3 (fun ww => ww.cell? ⟨w.heap.size, 0, none⟩ = some (.string s) ∧ ww.cell? ⟨w.heap.size, 1, none⟩ = some (.int .i64 p)) (exact qK) (first | (go_at_call 195; with_reducible refine Calls.mono (HL.out (W0.alloc (.cells #[.int .i64 0, .int .i64 0] 128)).drew) ?_; rintro r1 w1 ⟨rfl, h1⟩; have hz1 := h1.size; (try simp at hz1); (try have ⟨hl1_0, hk1_0⟩ := qL w.heap.size w1.heap.size); have nv0_0 : w1.cell? ⟨W0.heap.size, 0, none⟩ = some (.int .i64 0) := ((bcell h1).1 _ _ qO).trans qi; have nv0_1 : w1.cell? ⟨W0.heap.size, 1, none⟩ = some (.int .i64 0) := ((bcell h1).1 _ _ qO).trans qi; have nz0 : ∀ o, w1.frozen? ⟨W0.heap.size, o, none⟩ = false := fun o => ((bcell h1).2 _ o qO).trans qi; have nl0 : W0.heap.size < w1.heap.size := qo) | (go_at_call 195; with_reducible refine Calls.mono (HL.out W0.drew) ?_; rintro r1 w1 ⟨rfl, h1⟩; have hz1 := h1.size; (try simp at hz1); (try have ⟨hl1_0, hk1_0⟩ := qL w.heap.size w1.heap.size)) | (go_at_call 262; with_reducible refine Calls.mono (HA.out (w1.alloc (.cells #[.int .i64 0, .int .i64 0] 128))) ?_; rintro r2 w2 ⟨rfl, h2⟩; have hz2 := h2.size; (try simp at hz2); (try have ⟨hl2_0, hk2_0⟩ := qL w.heap.size w2.heap.size); (try have nv0_0 := memLater h2 nv0_0); (try have nv0_1 := memLater h2 nv0_1); (try have nz0 : ∀ o, w2.frozen? ⟨W0.heap.size, o, none⟩ = false := fun o => ((bcell h2).2 _ o qO).trans (nz0 o)); (try have nl0 : W0.heap.size < w2.heap.size := qo); have nv1_0 : w2.cell? ⟨w1.heap.size, 0, none⟩ = some (.int .i64 0) := ((bcell h2).1 _ _ qO).trans qi; have nv1_1 : w2.cell? ⟨w1.heap.size, 1, none⟩ = some (.int .i64 0) := ((bcell h2).1 _ _ qO).trans qi; have nz1 : ∀ o, w2.frozen? ⟨w1.heap.size, o, none⟩ = false := fun o => ((bcell h2).2 _ o qO).trans qi; have nl1 : w1.heap.size < w2.heap.size := qo) | (go_at_call 262; with_reducible refine Calls.mono (HA.out w1) ?_; rintro r2 w2 ⟨rfl, h2⟩; have hz2 := h2.size; (try simp at hz2); (try have ⟨hl2_0, hk2_0⟩ := qL w.heap.size w2.heap.size); (try have nv0_0 := memLater h2 nv0_0); (try have nv0_1 := memLater h2 nv0_1); (try have nz0 : ∀ o, w2.frozen? ⟨W0.heap.size, o, none⟩ = false := fun o => ((bcell h2).2 _ o qO).trans (nz0 o)); (try have nl0 : W0.heap.size < w2.heap.size := qo)))
    have E : PaAt w (w2.alloc (.cells #[.int .i64 AX, .int .i64 FY] 128)) w2.heap.size s p true AX FY := by
     exact qt61
    generalize (w2.alloc (.cells #[.int .i64 AX, .int .i64 FY] 128)) = W at *
    generalize w2.heap.size = k at *
    rotate_left
    have E : PaAt w ((w2.setCell ⟨w1.heap.size, 0, none⟩ (.int .i64 AX)).setCell ⟨w1.heap.size, 1, none⟩ (.int .i64 FY)) w1.heap.size s p true AX FY := by
     exact qt35
    generalize ((w2.setCell ⟨w1.heap.size, 0, none⟩ (.int .i64 AX)).setCell ⟨w1.heap.size, 1, none⟩ (.int .i64 FY)) = W at *
    generalize w1.heap.size = k at *
    rotate_left
    have E : PaAt w ((w2.setCell ⟨W0.heap.size, 0, none⟩ (.int .i64 AX)).setCell ⟨W0.heap.size, 1, none⟩ (.int .i64 FY)) W0.heap.size s p true AX FY := by
     exact qt36
    generalize ((w2.setCell ⟨W0.heap.size, 0, none⟩ (.int .i64 AX)).setCell ⟨W0.heap.size, 1, none⟩ (.int .i64 FY)) = W at *
    generalize W0.heap.size = k at *
    rotate_left
    all_goals
     obtain ⟨G, Q, T, up, lk⟩ := E
     have zu := up.size
     have g0 := G.c0; have g1 := G.c1; have g2 := G.c2
     have t0 := T.c0; have t1 := T.c1; have tl := T.lt
     have ⟨q0, q1, q2, qz, ql⟩ := Q
     go_wp2_with fail
     refine wp_loop_rounds 3 ?_
     rw [rounds_succ]
     go_wp2_with fail
     refine (HBd.out _).mono ?_
     rintro r3 w3 ⟨rfl, h3⟩
     obtain ⟨hc3, hf3, hz3⟩ := qb h3
     (try simp at hz3)
     have G3 : Tri w3 (w.heap.size) (s) (p) (true) := qTi
     have ⟨G3_0, G3_1, G3_2, G3_z, G3_l⟩ := G3
     have Q3 : Tre w3 (w.heap.size + 1) (0) (0) (false) := qTe
     have ⟨Q3_0, Q3_1, Q3_2, Q3_z, Q3_l⟩ := Q3
     have T3 : Two w3 (k) (AX) (FY) := qTw
     have ⟨T3_0, T3_1, T3_z, T3_l⟩ := T3
     clear hc3 hf3
     go_wp2_with fail
     rw [rounds_succ]
     go_wp2_with fail
     refine (HBu.out _).mono ?_
     rintro r4 w4 ⟨rfl, h4⟩
     obtain ⟨hc4, hf4, hz4⟩ := qb h4
     (try simp at hz4)
     have G4 : Tri w4 (w.heap.size) (s) (p) (true) := qTi
     have ⟨G4_0, G4_1, G4_2, G4_z, G4_l⟩ := G4
     have Q4 : Tre w4 (w.heap.size + 1) (0) (0) (false) := qTe
     have ⟨Q4_0, Q4_1, Q4_2, Q4_z, Q4_l⟩ := Q4
     have T4 : Two w4 (k) (AX) (FY) := qTw
     have ⟨T4_0, T4_1, T4_z, T4_l⟩ := T4
     clear hc4 hf4
     go_wp2_with fail
     rw [rounds_succ]
     go_wp2
     exact qV (.tuple #[.agg #[.int .i64 0, .int .i64 0, .bool false], .bool false]) (by simp [results, Tryz.results217, go_sem, Q4_0, Q4_1, Q4_2, Q4_z, Q4_l]) rfl
end Go.Proofs.YtlendfhehhacpaaGreat
