/- A part. -/
import Derived.Test.YtlendfhehhacpaaGreatQ23
import Derived.Test.YtlendfhehhacpaaGreatQ25
import Derived.Test.YtlendfhehhacpaaGreatQ22
import Derived.Test.YtlendfhehhacpaaGreatQ24
set_option linter.unusedVariables false
set_option linter.unusedSimpArgs false
set_option maxRecDepth 100000
set_option maxHeartbeats 8000000
namespace Go.Proofs.YtlendfhehhacpaaGreat
open Go.RowKit Nib Tryz
theorem same_line {s : ByteArray} {p q : Nat} (hp : p ≤ s.size) (hq : q ≤ s.size) : (beg s q = beg s p ∧ fin s q = fin s p) ↔ lin s q = lin s p := by
 constructor
 ·intro h
  rw [← lin_beg s q, h.1, lin_beg]
 ·intro h
  rw [beg_eq hq, fin_eq hq, beg_eq hp, fin_eq hp, h]
  exact ⟨rfl, rfl⟩
theorem qt50 {P : Prop} (h : P := by
  intro ww
  have h1 := itr_w_le (g := g) hp (N - 1)
  have h2 := itr_w_le (g := g) hp N
  have := sKept_any s _ _ ww hs h1 h2
  rw [show wordQ s p N g true = if ¬ (beg s (itr (wstep s g) N p) = beg s (itr (wstep s g) (N - 1) p) ∧ fin s (itr (wstep s g) N p) = fin s (itr (wstep s g) (N - 1) p)) ∧ fin s (itr (wstep s g) (N - 1) p) ≠ itr (wstep s g) (N - 1) p then fin s (itr (wstep s g) (N - 1) p) else itr (wstep s g) N p by
   unfold wordQ; rw [if_pos rfl]; simp only [same_line h1 h2, ne_eq]]
  exact this
 ) : P := h
theorem qt73 {P : Prop} (h : P := by
  have ⟨F2_0, F2_1, F2_2, F2_3, F2_4, F2_z, F2_l⟩ := F2
  have RB2 : Two w2 (w.heap.size + 1) (0) (0) := qTw
  have ⟨RB2_0, RB2_1, RB2_z, RB2_l⟩ := RB2
  go_wp2
  go_round
  case rel =>
   refine ⟨k + 1, by omega, rfl, by rw [hA], by go_num, F2, RB2, ?_⟩
   repeat exact qB
  case measure => simp [intOf] <;> omega
 ) : P := h
theorem sToWord_verb (s : ByteArray) (p n : Nat) (g : Bool) (w : World) (hs : s.size ≤ 1000) (hp : p ≤ s.size) (hn : n ≤ 99) :
  qC 208 #[.agg #[.string s, .int .i64 (p), .int .i64 (n), .bool true, .bool false], .bool g] w (.tuple #[.agg #[.int .i64 (wayX (((wordQ s p (max n 1) g true : Int), 0, (wordQ s p (max n 1) g true : Int) == (p : Int)))), .int .i64 (wayK (((wordQ s p (max n 1) g true : Int), 0, (wordQ s p (max n 1) g true : Int) == (p : Int))))], .bool (wayZ (((wordQ s p (max n 1) g true : Int), 0, (wordQ s p (max n 1) g true : Int) == (p : Int))))]) := by
 have HP : Hid (∀ (q : Nat), q ≤ s.size → ∀ ww, qC 249 #[.string s, .int .i64 q, .bool g] ww (.int .i64 (wstep s g q))) := fun q hq ww => sWordStep_any s q g ww hs hq
 have HN : qH 241 #[.agg #[.string s, .int .i64 (p), .int .i64 (n), .bool true, .bool false]] (.int .i64 ((max n 1 : Nat) : Int)) := by
  intro ww
  have := sNumber_any s p n true false ww
  rw [show max (n : Int) 1 = ((max n 1 : Nat) : Int) by omega] at this
  exact this
 have hN1 : 1 ≤ max n 1 := by omega
 have hN2 : max n 1 ≤ 99 := by omega
 generalize max n 1 = N at *
 have HU : qH 240 #[.agg #[.string s, .int .i64 (p), .int .i64 (n), .bool true, .bool false], .int .i64 (wordQ s p N g true : Nat), .int .i64 0] (.tuple #[.agg #[.int .i64 (wayX (((wordQ s p N g true : Int), 0, (wordQ s p N g true : Int) == (p : Int)))), .int .i64 (wayK (((wordQ s p N g true : Int), 0, (wordQ s p N g true : Int) == (p : Int))))], .bool (wayZ (((wordQ s p N g true : Int), 0, (wordQ s p N g true : Int) == (p : Int))))]) := fun ww => sUnless_any s p n _ 0 true false ww
 generalize (((wordQ s p N g true : Nat) : Int), (0 : Int), (((wordQ s p N g true : Nat) : Int) == (p : Int))) = R at *
 have HK : qH 250 #[.string s, .int .i64 (itr (wstep s g) (N - 1) p : Nat), .int .i64 (itr (wstep s g) N p : Nat)] (.int .i64 (wordQ s p N g true : Nat)) := by
  exact qt50
 generalize wordQ s p N g true = Z at *
 go_enter func208, ntmps208
 have F : Five ((w.alloc (.cells #[.string s, .int .i64 (p), .int .i64 (n), .bool true, .bool false] 206)).alloc (.cells #[.int .i64 0, .int .i64 0] 202)) w.heap.size s p n true false := Five.alloc (Five.new _ _ _ _ _ _ _) _
 have RB : Two ((w.alloc (.cells #[.string s, .int .i64 (p), .int .i64 (n), .bool true, .bool false] 206)).alloc (.cells #[.int .i64 0, .int .i64 0] 202)) (w.heap.size + 1) 0 0 := qN
 go_wp2_with fail
 go_region
 go_wp2_with fail
 refine (HN.out _).mono ?_
 rintro r1 w1 ⟨rfl, h1⟩
 obtain ⟨hc1, hf1, hz1⟩ := qb h1
 (try simp at hz1)
 have F1 : Five w1 (w.heap.size) s p n true false := qF
 have ⟨F1_0, F1_1, F1_2, F1_3, F1_4, F1_z, F1_l⟩ := F1
 have RB1 : Two w1 (w.heap.size + 1) (0) (0) := qTw
 have ⟨RB1_0, RB1_1, RB1_z, RB1_l⟩ := RB1
 go_wp2
 go_loopw [6, 7, 27] (fun f q i wr => ∃ k : Nat, k ≤ N ∧ f = .int .i64 (itr (wstep s g) (k - 1) p : Nat) ∧ q = .int .i64 (itr (wstep s g) k p : Nat) ∧ i = .int .i64 k ∧ Five wr w.heap.size s p n true false ∧ Two wr (w.heap.size + 1) 0 0 ∧ Below w.heap.size w wr) (fun _ _ i _ => N - (intOf i).toNat)
 case atStart =>
  refine ⟨0, by omega, rfl, rfl, rfl, F1, RB1, ?_⟩
  repeat exact qB
 case round =>
  clear F RB h1 hc1 hf1 F1_0 F1_1 F1_2 F1_3 F1_4 F1_z F1_l RB1_0 RB1_1 RB1_z RB1_l
  obtain ⟨k, hk, rfl, rfl, rfl, F, RB, hB⟩ := hrel
  have hq := itr_w_le (g := g) hp k
  have ⟨f0, f1, f2, f3, f4, fz, fl⟩ := F
  have r0 := (RB).c0
  have r1 := (RB).c1
  have rz := (RB).fz
  have rl := (RB).lt
  have hzz := hB.size
  by_cases hlt : k < N
  ·have HS : qH 249 #[.string s, .int .i64 (itr (wstep s g) k p : Nat), .bool g] (.int .i64 (itr (wstep s g) (k + 1) p : Nat)) := fun ww => HP.out _ hq ww
   generalize hA : itr (wstep s g) (k + 1) p = A at *
   go_wp2_with fail
   refine (HS.out _).mono ?_
   rintro r2 w2 ⟨rfl, h2⟩
   obtain ⟨hc2, hf2, hz2⟩ := qb h2
   (try simp at hz2)
   have F2 : Five w2 (w.heap.size) s p n true false := qF
   exact qt73
  ·have ek : k = N := by omega
   subst ek
   generalize itr (wstep s g) (k - 1) p = E at *
   generalize itr (wstep s g) k p = A at *
   have s0 := f0; have s1 := f1; have s2 := f2; have s3 := f3; have s4 := f4
   clear HP HN F f0 f1 f2 f3 f4
   go_wp2_with fail
   go_region_held3 (fun ww => ww.cell? ⟨w.heap.size, 0, none⟩ = some (.string s) ∧ ww.cell? ⟨w.heap.size, 1, none⟩ = some (.int .i64 p) ∧ ww.cell? ⟨w.heap.size, 2, none⟩ = some (.int .i64 n) ∧ ww.cell? ⟨w.heap.size, 3, none⟩ = some (.bool true) ∧ ww.cell? ⟨w.heap.size, 4, none⟩ = some (.bool false)) ((refine ⟨?_, ?_, ?_, ?_, ?_⟩ <;> (first | ((repeat exact qM); done) | (go_simp; done)))) (first | (go_at_call 250; refine (HK.out _).mono ?_; rintro r4 w4 ⟨rfl, h4⟩; obtain ⟨hc4, hf4, hz4⟩ := qb h4; (try simp at hz4); (try have ⟨hl4_0, hk4_0⟩ := qL w.heap.size w4.heap.size); have RB4 : Two w4 (w.heap.size + 1) (0) (0) := qTw; have ⟨RB4_0, RB4_1, RB4_z, RB4_l⟩ := RB4) | (go_at_call 240; refine (HU.out _).mono ?_; rintro r5 w5 ⟨rfl, h5⟩; obtain ⟨hc5, hf5, hz5⟩ := qb h5; (try simp at hz5); (try have ⟨hl5_0, hk5_0⟩ := qL w.heap.size w5.heap.size); have RB5 : Two w5 (w.heap.size + 1) (0) (0) := qTw; have ⟨RB5_0, RB5_1, RB5_z, RB5_l⟩ := RB5))
   exact qt38
def mkP (p : Pg) (i j : Nat) (l : Bool) : Pg := if i = j ∧ l = false then p else { p with pl := clm p.t (if l then beg p.t j else max i (j - 1)), anchor := i }
def mkO (i j : Nat) (l : Bool) : Int := if i = j ∧ l = false then 4 else 1
theorem qt48 {P : Prop} (h : P := by
  have H3 := h3
  have a5 := u3.was (b := w.heap.size) (o := 0) (v := .int .i64 i) (memLater h2 (memLater ((Below.refl _ _).drew) g0)) qs
  have U3 : Upd [d] w w3 := by
   repeat exact qU
  have z3 := U3.size
  have k3 : w.heap.size < w3.heap.size := by have := u3.size; have := h2.size; simp at this; omega
  clear h1 h2 u3 g0 g1 g2 a2 a1 r1 d1 H1
  have r3 := H3.bg.c0
  have d3 := H3.dk.c2
  have dz := H3.dk.fz
  have dl3 := H3.dk.lt
  have rl3 := H3.bg.lt
  go_wp2_with fail
  go_region_held3 (fun ww => ww.cell? ⟨r, 0, none⟩ = some (.pointer (some ⟨d, 0, none⟩)) ∧ ww.cell? ⟨w.heap.size, 0, none⟩ = some (.int .i64 i)) (exact qK) (fail)
  have HS2 := HS.out _ H3
  exact qt16
 ) : P := h
theorem mMarkAll (r d : Nat) (p : Pg) (i j : Nat) (l : Bool) (w : World) (h : RdAt w r d p) (hs : p.t.size ≤ 1000) (hij : i ≤ j) (hj : j ≤ p.t.size) :
  Calls Tryz.prog 213 #[.pointer (some ⟨r, 0, none⟩), .agg #[.int .i64 i, .int .i64 j, .bool l]] w fun e w' => e = .returned (.int .i64 (mkO i j l)) ∧ RdAt w' r d (mkP p i j l) ∧ Upd [d] w w' := by
 have H := h
 have b0 := h.bg.c0
 have bl := h.bg.lt
 have c0 := h.dk.c0
 have dl := h.dk.lt
 have l1 : r < w.heap.size + 1 := by omega
 have l2 : d < w.heap.size + 1 := by omega
 have HN := fun ww => tNothing_any i j l ww
 unfold mkP mkO
 by_cases hn : i = j ∧ l = false
 ·rw [if_pos hn, if_pos hn]
  obtain ⟨e1, e2⟩ := hn
  subst e1 e2
  have HN2 : qH 172 #[.agg #[.int .i64 i, .int .i64 i, .bool false]] (.bool true) := by
   intro ww
   have := HN ww
   rw [show (((i : Int) == i) && !false) = true by simp] at this
   exact this
  clear HN
  go_enter func213, ntmps213
  go_wp2_with fail
  refine (HN2.out _).mono ?_
  rintro e w1 ⟨rfl, h1⟩
  obtain ⟨hc1, hf1, hz1⟩ := qb h1
  try simp at hz1
  exact qt16
 ·rw [if_neg hn, if_neg hn]
  have HN2 : qH 172 #[.agg #[.int .i64 i, .int .i64 j, .bool l]] (.bool false) := by
   intro ww
   have := HN ww
   rw [show (((i : Int) == j) && !l) = false by
    rw [Bool.and_eq_false_iff]
    by_cases e : i = j
    ·right; cases l
     ·exact absurd ⟨e, rfl⟩ hn
     ·rfl
    ·left; simp; omega] at this
   exact this
  clear HN hn
  have HLi : qH 195 #[.string p.t, .int .i64 j] (.agg #[.int .i64 (beg p.t j), .int .i64 (fin p.t j)]) := fun ww => tLine_any p.t j j ww hs rfl hj
  have HLa : qH 202 #[.agg #[.int .i64 (i), .int .i64 (j)]] (.int .i64 ((max i (j - 1) : Nat) : Int)) := by
   intro ww
   have := tLast_any i j ww qo
   rw [show max (i : Int) (j - 1) = ((max i (j - 1) : Nat) : Int) by omega] at this
   exact this
  have hbl := beg_le p.t j
  have hpl : (if l then beg p.t j else max i (j - 1)) ≤ p.t.size := by split <;> omega
  obtain ⟨P, hP, hP2⟩ : ∃ P : Nat, P = (if l then beg p.t j else max i (j - 1)) ∧ ((l = true ∧ P = beg p.t j) ∨ (l = false ∧ P = max i (j - 1))) := ⟨_, rfl, by cases l <;> simp⟩
  rw [← hP] at hpl ⊢
  have HM : Hid (∀ ww, RdAt ww r d p → Calls Tryz.prog 179 #[.pointer (some ⟨d, 0, none⟩), .int .i64 P] ww fun e w' => e = .returned (.tuple #[]) ∧ RdAt w' r d { p with pl := clm p.t P } ∧ Upd [d] ww w') := fun ww hh => mMoveTo r d p P P ww hh hs rfl hpl
  have HS : Hid (∀ ww, RdAt ww r d { p with pl := clm p.t P } → RdAt (ww.setCell ⟨d, 2, none⟩ (.int .i64 i)) r d { p with pl := clm p.t P, anchor := i }) := fun ww hh => hh.set_anchor i
  have hx := ix0 (beg p.t j) (fin p.t j)
  generalize hp2 : ({ p with pl := clm p.t P, anchor := i } : Pg) = p2 at *
  generalize hp3 : ({ p with pl := clm p.t P } : Pg) = p3 at *
  generalize beg p.t j = LB at *
  generalize fin p.t j = LE at *
  generalize max i (j - 1) = MX at *
  have q3 : p3.t = p.t := by rw [← hp3]
  clear hp2 hp3 hP hbl
  rcases hP2 with ⟨el, eP⟩ | ⟨el, eP⟩
  ·subst el eP
   go_enter func213, ntmps213
   go_wp2_with fail
   refine (HN2.out _).mono ?_
   rintro e w1 ⟨rfl, h1⟩
   obtain ⟨hc1, hf1, hz1⟩ := qb h1
   try simp at hz1
   have g0 : w1.cell? ⟨w.heap.size, 0, none⟩ = some (.int .i64 i) := memLater h1 qi
   have g1 : w1.cell? ⟨w.heap.size, 1, none⟩ = some (.int .i64 j) := memLater h1 qi
   have g2 : w1.cell? ⟨w.heap.size, 2, none⟩ = some (.bool true) := memLater h1 qi
   have k1 : w.heap.size < w1.heap.size := by omega
   have H1 := (H.alloc (.cells #[.int .i64 i, .int .i64 j, .bool true] 186)).below h1
   have r1 := H1.bg.c0
   have d1 := H1.dk.c0
   clear hc1 hf1
   go_wp2_with fail
   go_region_held3 (fun ww => ww.cell? ⟨r, 0, none⟩ = some (.pointer (some ⟨d, 0, none⟩)) ∧ ww.cell? ⟨d, 0, none⟩ = some (.string p.t) ∧ ww.cell? ⟨w.heap.size, 1, none⟩ = some (.int .i64 j)) (exact qK) (first | (go_at_call 195; refine Calls.mono (HLi.out _) ?_; rintro r2 w2 ⟨rfl, h2⟩; have hz2 := h2.size; (try simp at hz2); (try have ⟨hl2_0, hk2_0⟩ := qL d w2.heap.size); (try have ⟨hl2_1, hk2_1⟩ := qL r w2.heap.size); (try have ⟨hl2_2, hk2_2⟩ := qL w.heap.size w2.heap.size)) | (go_at_call 179; refine Calls.mono (HM.out _ qRd) ?_; rintro r3 w3 ⟨rfl, h3, u3⟩; have hz3 := u3.size; (try simp at hz3); have a0 := h3.bg.c0; have a1 := h3.dk.c0; rw [q3] at a1; have a2 := u3.was (b := w.heap.size) (o := 1) (v := .int .i64 j) (memLater h2 (memLater ((Below.refl _ _).drew) g1)) qs))
   exact qt48
  ·subst el eP
   go_enter func213, ntmps213
   go_wp2_with fail
   refine (HN2.out _).mono ?_
   rintro e w1 ⟨rfl, h1⟩
   obtain ⟨hc1, hf1, hz1⟩ := qb h1
   try simp at hz1
   have g0 : w1.cell? ⟨w.heap.size, 0, none⟩ = some (.int .i64 i) := memLater h1 qi
   have g1 : w1.cell? ⟨w.heap.size, 1, none⟩ = some (.int .i64 j) := memLater h1 qi
   have g2 : w1.cell? ⟨w.heap.size, 2, none⟩ = some (.bool false) := memLater h1 qi
   have k1 : w.heap.size < w1.heap.size := by omega
   have H1 := (H.alloc (.cells #[.int .i64 i, .int .i64 j, .bool false] 186)).below h1
   have r1 := H1.bg.c0
   have d1 := H1.dk.c0
   clear hc1 hf1
   go_wp2_with fail
   go_region_held3 (fun ww => ww.cell? ⟨r, 0, none⟩ = some (.pointer (some ⟨d, 0, none⟩)) ∧ ww.cell? ⟨w.heap.size, 0, none⟩ = some (.int .i64 i) ∧ ww.cell? ⟨w.heap.size, 1, none⟩ = some (.int .i64 j)) (exact qK) (first | (go_at_call 202; refine Calls.mono (HLa.out _) ?_; rintro r2 w2 ⟨rfl, h2⟩; have hz2 := h2.size; (try simp at hz2); (try have ⟨hl2_0, hk2_0⟩ := qL r w2.heap.size); (try have ⟨hl2_1, hk2_1⟩ := qL w.heap.size w2.heap.size)) | (go_at_call 179; refine Calls.mono (HM.out _ qRd) ?_; rintro r3 w3 ⟨rfl, h3, u3⟩; have hz3 := u3.size; (try simp at hz3); have a0 := h3.bg.c0; have a1 := u3.was (b := w.heap.size) (o := 0) (v := .int .i64 i) (memLater h2 (memLater ((Below.refl _ _).drew) g0)) qs; have a2 := u3.was (b := w.heap.size) (o := 1) (v := .int .i64 j) (memLater h2 (memLater ((Below.refl _ _).drew) g1)) qs))
   exact qt48
structure PaAt (w W : World) (k : Nat) (s : ByteArray) (p : Int) (wh : Bool) (a b : Int) : Prop where
 g : Tri W w.heap.size s p wh
 q : Tre W (w.heap.size + 1) 0 0 false
 t : Two W k a b
 up : Below w.heap.size w W
 lk : w.heap.size + 1 < k
theorem qt36 {P : Prop} (h : P := by
  have t2 : Two w2 w1.heap.size 0 0 := ⟨nv1_0, nv1_1, nz1, nl1⟩
  refine ⟨Tri.other (Tri.other (((G.drew.below h1).alloc _).below h2) qs _) qs _, Tre.other (Tre.other (((Q.drew.below h1).alloc _).below h2) qs _) qs _, Two.set1 (Two.set0 t2 _) _, ?_, by omega⟩
  have zw := UW0.size
  repeat exact qB
 ) : P := h
theorem qt37 {P : Prop} (h : P := by
  have t2 : Two w2 W0.heap.size 0 0 := ⟨nv0_0, nv0_1, nz0, nl0⟩
  refine ⟨Tri.other (Tri.other (((G.alloc _).drew.below h1).below h2) qs _) qs _, Tre.other (Tre.other (((Q.alloc _).drew.below h1).below h2) qs _) qs _, Two.set1 (Two.set0 t2 _) _, ?_, by omega⟩
  have zw := UW0.size
  repeat exact qB
 ) : P := h
theorem qt59 {P : Prop} (h : P := by
  refine ⟨Tri.alloc ((G.drew.below h1).below h2) _, Tre.alloc ((Q.drew.below h1).below h2) _, Two.new _ _ _ _, ?_, by omega⟩
  have zw := UW0.size
  repeat exact qB
 ) : P := h
theorem oParagraph (s : ByteArray) (p : Nat) (wh : Bool) (hs : s.size ≤ 1000) (hp : p ≤ s.size) : GivesO 217 #[.agg #[.string s, .int .i64 p, .bool wh]] s := by
 have hm := lin_lt hp
 have HL : qH 195 #[.string s, .int .i64 p] (.agg #[.int .i64 (att s (lin s p)), .int .i64 (fin s (att s (lin s p)))]) := by
  intro ww
  have := tLine_any s p p ww hs rfl hp
  rw [fin_eq hp, beg_eq hp] at this
  exact this
 obtain ⟨x, y, hx, hy, hyl, HA⟩ := oAlike s (lin s p) hs hm
 have HA : qH 262 #[.string s, .agg #[.int .i64 (att s (lin s p)), .int .i64 (fin s (att s (lin s p)))]] (.agg #[.int .i64 (att s x), .int .i64 (fin s (att s y))]) := HA
 have hxl : x < lns s := by omega
 have a1 := (att_in hxl).1
 have a2 := (att_in hyl).1
 have a3 := fin_le a2
 have a4 := fin_ge s (att s y)
 have a5 := att_monoO s x (y - x)
 rw [show x + (y - x) = y by omega] at a5
 generalize att s (lin s p) = A0 at *
 generalize fin s A0 = B0 at *
 have hix0 : ∀ ww : World, (Instr.index 127 (.agg #[.int .i64 1, .int .i64 (-1)]) (.int .i64 0)).run Tryz.prog ww = .ok (.int .i64 1) ww := fun _ => by kernel_rfl
 have hix1 : ∀ ww : World, (Instr.index 127 (.agg #[.int .i64 1, .int .i64 (-1)]) (.int .i64 1)).run Tryz.prog ww = .ok (.int .i64 (-1)) ww := fun _ => by kernel_rfl
 obtain ⟨D1, D2, hD, HBd⟩ := tBes_dn s (att s x) y hs hyl
 obtain ⟨E1, E2, hE, HBu⟩ := tBes_up s (fin s (att s y)) x hs hxl
 have HBd : qH 223 #[.string s, .agg #[.int .i64 (att s x), .int .i64 (fin s (att s y))], .int .i64 1] (.tuple #[.agg #[.int .i64 (D1), .int .i64 (D2)], .bool (decide (y + 1 < lns s))]) := HBd
 have HBu : qH 223 #[.string s, .agg #[.int .i64 (att s x), .int .i64 (fin s (att s y))], .int .i64 (-1)] (.tuple #[.agg #[.int .i64 (E1), .int .i64 (E2)], .bool (decide (0 < x))]) := HBu
 cases wh with
 | false =>
  refine ⟨att s x, fin s (att s y), true, true, by omega, by omega, fun w => ?_⟩
  generalize att s x = AX at *
  generalize fin s (att s y) = FY at *
  clear HBd HBu hD hE
  go_enter func217, ntmps217
  go_wp2_with fail
  have G : Tri ((w.alloc (.cells #[.string s, .int .i64 p, .bool false] 213)).alloc (.cells #[.int .i64 0, .int .i64 0, .bool false] 186)) w.heap.size s p false := Tri.alloc (Tri.new _ _ _ _ _) _
  have Q : Tre ((w.alloc (.cells #[.string s, .int .i64 p, .bool false] 213)).alloc (.cells #[.int .i64 0, .int .i64 0, .bool false] 186)) (w.heap.size + 1) 0 0 false := by have := Tre.new (w.alloc (.cells #[.string s, .int .i64 p, .bool false] 213)) 0 0 false 186; simpa using this
  have hW0 : w.heap.size + 1 < ((w.alloc (.cells #[.string s, .int .i64 p, .bool false] 213)).alloc (.cells #[.int .i64 0, .int .i64 0, .bool false] 186)).heap.size := by simp
  have UW0 : Below w.heap.size w ((w.alloc (.cells #[.string s, .int .i64 p, .bool false] 213)).alloc (.cells #[.int .i64 0, .int .i64 0, .bool false] 186)) := by
   repeat exact qB
  generalize ((w.alloc (.cells #[.string s, .int .i64 p, .bool false] 213)).alloc (.cells #[.int .i64 0, .int .i64 0, .bool false] 186)) = W0 at *
  have gg0 := G.c0; have gg1 := G.c1
  go_wp2_with fail
  go_region_held3 (fun ww => ww.cell? ⟨w.heap.size, 0, none⟩ = some (.string s) ∧ ww.cell? ⟨w.heap.size, 1, none⟩ = some (.int .i64 p)) (exact qK) (first | (go_at_call 195; with_reducible refine Calls.mono (HL.out (W0.alloc (.cells #[.int .i64 0, .int .i64 0] 128)).drew) ?_; rintro r1 w1 ⟨rfl, h1⟩; have hz1 := h1.size; (try simp at hz1); (try have ⟨hl1_0, hk1_0⟩ := qL w.heap.size w1.heap.size); have nv0_0 : w1.cell? ⟨W0.heap.size, 0, none⟩ = some (.int .i64 0) := ((bcell h1).1 _ _ qO).trans qi; have nv0_1 : w1.cell? ⟨W0.heap.size, 1, none⟩ = some (.int .i64 0) := ((bcell h1).1 _ _ qO).trans qi; have nz0 : ∀ o, w1.frozen? ⟨W0.heap.size, o, none⟩ = false := fun o => ((bcell h1).2 _ o qO).trans qi; have nl0 : W0.heap.size < w1.heap.size := qo) | (go_at_call 195; with_reducible refine Calls.mono (HL.out W0.drew) ?_; rintro r1 w1 ⟨rfl, h1⟩; have hz1 := h1.size; (try simp at hz1); (try have ⟨hl1_0, hk1_0⟩ := qL w.heap.size w1.heap.size)) | (go_at_call 262; with_reducible refine Calls.mono (HA.out (w1.alloc (.cells #[.int .i64 0, .int .i64 0] 128))) ?_; rintro r2 w2 ⟨rfl, h2⟩; have hz2 := h2.size; (try simp at hz2); (try have ⟨hl2_0, hk2_0⟩ := qL w.heap.size w2.heap.size); (try have nv0_0 := memLater h2 nv0_0); (try have nv0_1 := memLater h2 nv0_1); (try have nz0 : ∀ o, w2.frozen? ⟨W0.heap.size, o, none⟩ = false := fun o => ((bcell h2).2 _ o qO).trans (nz0 o)); (try have nl0 : W0.heap.size < w2.heap.size := qo); have nv1_0 : w2.cell? ⟨w1.heap.size, 0, none⟩ = some (.int .i64 0) := ((bcell h2).1 _ _ qO).trans qi; have nv1_1 : w2.cell? ⟨w1.heap.size, 1, none⟩ = some (.int .i64 0) := ((bcell h2).1 _ _ qO).trans qi; have nz1 : ∀ o, w2.frozen? ⟨w1.heap.size, o, none⟩ = false := fun o => ((bcell h2).2 _ o qO).trans qi; have nl1 : w1.heap.size < w2.heap.size := qo) | (go_at_call 262; with_reducible refine Calls.mono (HA.out w1) ?_; rintro r2 w2 ⟨rfl, h2⟩; have hz2 := h2.size; (try simp at hz2); (try have ⟨hl2_0, hk2_0⟩ := qL w.heap.size w2.heap.size); (try have nv0_0 := memLater h2 nv0_0); (try have nv0_1 := memLater h2 nv0_1); (try have nz0 : ∀ o, w2.frozen? ⟨W0.heap.size, o, none⟩ = false := fun o => ((bcell h2).2 _ o qO).trans (nz0 o)); (try have nl0 : W0.heap.size < w2.heap.size := qo)))
  have E : PaAt w (w2.alloc (.cells #[.int .i64 AX, .int .i64 FY] 128)) w2.heap.size s p false AX FY := by
   exact qt59
  generalize (w2.alloc (.cells #[.int .i64 AX, .int .i64 FY] 128)) = W at *
  generalize w2.heap.size = k at *
  rotate_left
  have E : PaAt w ((w2.setCell ⟨w1.heap.size, 0, none⟩ (.int .i64 AX)).setCell ⟨w1.heap.size, 1, none⟩ (.int .i64 FY)) w1.heap.size s p false AX FY := by
   exact qt36
  generalize ((w2.setCell ⟨w1.heap.size, 0, none⟩ (.int .i64 AX)).setCell ⟨w1.heap.size, 1, none⟩ (.int .i64 FY)) = W at *
  generalize w1.heap.size = k at *
  rotate_left
  have E : PaAt w ((w2.setCell ⟨W0.heap.size, 0, none⟩ (.int .i64 AX)).setCell ⟨W0.heap.size, 1, none⟩ (.int .i64 FY)) W0.heap.size s p false AX FY := by
   exact qt37
  generalize ((w2.setCell ⟨W0.heap.size, 0, none⟩ (.int .i64 AX)).setCell ⟨W0.heap.size, 1, none⟩ (.int .i64 FY)) = W at *
  generalize W0.heap.size = k at *
  rotate_left
  all_goals
   obtain ⟨G, Q, T, up, lk⟩ := E
   have zu := up.size
   have g0 := G.c0; have g1 := G.c1; have g2 := G.c2
   have t0 := T.c0; have t1 := T.c1; have tl := T.lt
   have ⟨q0, q1, q2, qz, ql⟩ := Q
   go_wp2
   exact qV (.tuple #[.agg #[.int .i64 AX, .int .i64 FY, .bool true], .bool true]) (by simp [results, results217, go_sem, q0, q1, q2, qz, ql]) rfl
 | true =>
  by_cases hc : y + 1 < lns s
  ·obtain ⟨eD1, eD2⟩ := hD hc
   rw [decide_eq_true hc] at HBd
   obtain ⟨x2, y2, hx2, hy2, hyl2, HA2⟩ := oAlike s (y + 1) hs hc
   rw [← eD1, ← eD2] at HA2
   have HA2 : qH 262 #[.string s, .agg #[.int .i64 (D1), .int .i64 (D2)]] (.agg #[.int .i64 (att s x2), .int .i64 (fin s (att s y2))]) := HA2
   have HJ : qH 196 #[.agg #[.int .i64 (att s x), .int .i64 (fin s (att s y))], .agg #[.int .i64 (att s x2), .int .i64 (fin s (att s y2))]] (.agg #[.int .i64 (((min (att s x) (att s x2) : Nat) : Int)), .int .i64 (((max (fin s (att s y)) (fin s (att s y2)) : Nat) : Int))]) := fun ww => tJoin_nat _ _ _ _ ww
   have b1 := (att_in hyl2).1
   have b2 := fin_le b1
   refine ⟨min (att s x) (att s x2), max (fin s (att s y)) (fin s (att s y2)), true, true, by omega, by omega, fun w => ?_⟩
   generalize ((min (att s x) (att s x2) : Nat) : Int) = U at *
   generalize ((max (fin s (att s y)) (fin s (att s y2)) : Nat) : Int) = V at *
   generalize att s x2 = A9 at *
   generalize fin s (att s y2) = B9 at *
   clear a5 b1 b2 eD1 eD2 hD hE HBu
   generalize att s x = AX at *
   generalize fin s (att s y) = FY at *
   go_enter func217, ntmps217
   go_wp2_with fail
   have G : Tri ((w.alloc (.cells #[.string s, .int .i64 p, .bool true] 213)).alloc (.cells #[.int .i64 0, .int .i64 0, .bool false] 186)) w.heap.size s p true := Tri.alloc (Tri.new _ _ _ _ _) _
   have Q : Tre ((w.alloc (.cells #[.string s, .int .i64 p, .bool true] 213)).alloc (.cells #[.int .i64 0, .int .i64 0, .bool false] 186)) (w.heap.size + 1) 0 0 false := by have := Tre.new (w.alloc (.cells #[.string s, .int .i64 p, .bool true] 213)) 0 0 false 186; simpa using this
   have hW0 : w.heap.size + 1 < ((w.alloc (.cells #[.string s, .int .i64 p, .bool true] 213)).alloc (.cells #[.int .i64 0, .int .i64 0, .bool false] 186)).heap.size := by simp
   have UW0 : Below w.heap.size w ((w.alloc (.cells #[.string s, .int .i64 p, .bool true] 213)).alloc (.cells #[.int .i64 0, .int .i64 0, .bool false] 186)) := by
    repeat exact qB
   generalize ((w.alloc (.cells #[.string s, .int .i64 p, .bool true] 213)).alloc (.cells #[.int .i64 0, .int .i64 0, .bool false] 186)) = W0 at *
   have gg0 := G.c0; have gg1 := G.c1
   go_wp2_with fail
   go_region_held3 (fun ww => ww.cell? ⟨w.heap.size, 0, none⟩ = some (.string s) ∧ ww.cell? ⟨w.heap.size, 1, none⟩ = some (.int .i64 p)) (exact qK) (first | (go_at_call 195; with_reducible refine Calls.mono (HL.out (W0.alloc (.cells #[.int .i64 0, .int .i64 0] 128)).drew) ?_; rintro r1 w1 ⟨rfl, h1⟩; have hz1 := h1.size; (try simp at hz1); (try have ⟨hl1_0, hk1_0⟩ := qL w.heap.size w1.heap.size); have nv0_0 : w1.cell? ⟨W0.heap.size, 0, none⟩ = some (.int .i64 0) := ((bcell h1).1 _ _ qO).trans qi; have nv0_1 : w1.cell? ⟨W0.heap.size, 1, none⟩ = some (.int .i64 0) := ((bcell h1).1 _ _ qO).trans qi; have nz0 : ∀ o, w1.frozen? ⟨W0.heap.size, o, none⟩ = false := fun o => ((bcell h1).2 _ o qO).trans qi; have nl0 : W0.heap.size < w1.heap.size := qo) | (go_at_call 195; with_reducible refine Calls.mono (HL.out W0.drew) ?_; rintro r1 w1 ⟨rfl, h1⟩; have hz1 := h1.size; (try simp at hz1); (try have ⟨hl1_0, hk1_0⟩ := qL w.heap.size w1.heap.size)) | (go_at_call 262; with_reducible refine Calls.mono (HA.out (w1.alloc (.cells #[.int .i64 0, .int .i64 0] 128))) ?_; rintro r2 w2 ⟨rfl, h2⟩; have hz2 := h2.size; (try simp at hz2); (try have ⟨hl2_0, hk2_0⟩ := qL w.heap.size w2.heap.size); (try have nv0_0 := memLater h2 nv0_0); (try have nv0_1 := memLater h2 nv0_1); (try have nz0 : ∀ o, w2.frozen? ⟨W0.heap.size, o, none⟩ = false := fun o => ((bcell h2).2 _ o qO).trans (nz0 o)); (try have nl0 : W0.heap.size < w2.heap.size := qo); have nv1_0 : w2.cell? ⟨w1.heap.size, 0, none⟩ = some (.int .i64 0) := ((bcell h2).1 _ _ qO).trans qi; have nv1_1 : w2.cell? ⟨w1.heap.size, 1, none⟩ = some (.int .i64 0) := ((bcell h2).1 _ _ qO).trans qi; have nz1 : ∀ o, w2.frozen? ⟨w1.heap.size, o, none⟩ = false := fun o => ((bcell h2).2 _ o qO).trans qi; have nl1 : w1.heap.size < w2.heap.size := qo) | (go_at_call 262; with_reducible refine Calls.mono (HA.out w1) ?_; rintro r2 w2 ⟨rfl, h2⟩; have hz2 := h2.size; (try simp at hz2); (try have ⟨hl2_0, hk2_0⟩ := qL w.heap.size w2.heap.size); (try have nv0_0 := memLater h2 nv0_0); (try have nv0_1 := memLater h2 nv0_1); (try have nz0 : ∀ o, w2.frozen? ⟨W0.heap.size, o, none⟩ = false := fun o => ((bcell h2).2 _ o qO).trans (nz0 o)); (try have nl0 : W0.heap.size < w2.heap.size := qo)))
   have E : PaAt w (w2.alloc (.cells #[.int .i64 AX, .int .i64 FY] 128)) w2.heap.size s p true AX FY := by
    exact qt59
   generalize (w2.alloc (.cells #[.int .i64 AX, .int .i64 FY] 128)) = W at *
   generalize w2.heap.size = k at *
   rotate_left
   have E : PaAt w ((w2.setCell ⟨w1.heap.size, 0, none⟩ (.int .i64 AX)).setCell ⟨w1.heap.size, 1, none⟩ (.int .i64 FY)) w1.heap.size s p true AX FY := by
    exact qt36
   generalize ((w2.setCell ⟨w1.heap.size, 0, none⟩ (.int .i64 AX)).setCell ⟨w1.heap.size, 1, none⟩ (.int .i64 FY)) = W at *
   generalize w1.heap.size = k at *
   rotate_left
   have E : PaAt w ((w2.setCell ⟨W0.heap.size, 0, none⟩ (.int .i64 AX)).setCell ⟨W0.heap.size, 1, none⟩ (.int .i64 FY)) W0.heap.size s p true AX FY := by
    exact qt37
   generalize ((w2.setCell ⟨W0.heap.size, 0, none⟩ (.int .i64 AX)).setCell ⟨W0.heap.size, 1, none⟩ (.int .i64 FY)) = W at *
   generalize W0.heap.size = k at *
   rotate_left
   all_goals
    obtain ⟨G, Q, T, up, lk⟩ := E
    have zu := up.size
    have g0 := G.c0; have g1 := G.c1; have g2 := G.c2
    have t0 := T.c0; have t1 := T.c1; have tl := T.lt
    have ⟨q0, q1, q2, qz, ql⟩ := Q
    go_wp2_with fail
    refine wp_loop_rounds 3 ?_
    rw [rounds_succ]
    go_wp2_with fail
    refine (HBd.out _).mono ?_
    rintro r3 w3 ⟨rfl, h3⟩
    obtain ⟨hc3, hf3, hz3⟩ := qb h3
    (try simp at hz3)
    have G3 : Tri w3 (w.heap.size) (s) (p) (true) := qTi
    have ⟨G3_0, G3_1, G3_2, G3_z, G3_l⟩ := G3
    have Q3 : Tre w3 (w.heap.size + 1) (0) (0) (false) := qTe
    have ⟨Q3_0, Q3_1, Q3_2, Q3_z, Q3_l⟩ := Q3
    have T3 : Two w3 (k) (AX) (FY) := qTw
    have ⟨T3_0, T3_1, T3_z, T3_l⟩ := T3
    clear hc3 hf3
    have N9 : Two (w3.alloc (.cells #[.int .i64 D1, .int .i64 D2] 128)) w3.heap.size D1 D2 := Two.new _ _ _ _
    have G9 := G3.alloc (.cells #[.int .i64 D1, .int .i64 D2] 128)
    have Q9 := Q3.alloc (.cells #[.int .i64 D1, .int .i64 D2] 128)
    have T9 := T3.alloc (.cells #[.int .i64 D1, .int .i64 D2] 128)
    have n0 := N9.c0; have n1 := N9.c1; have s0 := T9.c0; have s1 := T9.c1; have v0 := G9.c0
    have c0 := Q9.c0; have c1 := Q9.c1; have c2 := Q9.c2; have cz := Q9.fz
    go_wp2_with fail
    go_region_held3 (fun ww => ww.cell? ⟨k, 0, none⟩ = some (.int .i64 AX) ∧ ww.cell? ⟨k, 1, none⟩ = some (.int .i64 FY) ∧ ww.cell? ⟨w.heap.size, 0, none⟩ = some (.string s) ∧ ww.cell? ⟨w3.heap.size, 0, none⟩ = some (.int .i64 D1) ∧ ww.cell? ⟨w3.heap.size, 1, none⟩ = some (.int .i64 D2)) (exact qK) (first | (go_at_call 262; refine Calls.mono (HA2.out _) ?_; rintro r5 w5 ⟨rfl, h5⟩; have hz5 := h5.size; (try simp at hz5); (try have ⟨hl5_0, hk5_0⟩ := qL k w5.heap.size); (try have ⟨hl5_1, hk5_1⟩ := qL w.heap.size w5.heap.size); (try have ⟨hl5_2, hk5_2⟩ := qL w3.heap.size w5.heap.size); obtain ⟨hc5, hf5⟩ := bcell h5; have hb5_0 := fun o => hc5 (w.heap.size + 1) o qO; have fb5_0 := fun o => hf5 (w.heap.size + 1) o qO; (try have hg5_0 : w.heap.size + 1 < w5.heap.size := qo); clear hc5 hf5) | (go_at_call 196; refine Calls.mono (HJ.out _) ?_; rintro r6 w6 ⟨rfl, h6⟩; have hz6 := h6.size; (try simp at hz6); (try have ⟨hl6_0, hk6_0⟩ := qL k w6.heap.size); (try have ⟨hl6_1, hk6_1⟩ := qL w.heap.size w6.heap.size); (try have ⟨hl6_2, hk6_2⟩ := qL w3.heap.size w6.heap.size); obtain ⟨hc6, hf6⟩ := bcell h6; have hb6_0 := fun o => hc6 (w.heap.size + 1) o qO; have fb6_0 := fun o => hf6 (w.heap.size + 1) o qO; (try have hg6_0 : w.heap.size + 1 < w6.heap.size := qo); clear hc6 hf6))
    go_wp2
    (try rw [Exit.noGoto_ret])
    exact qV (.tuple #[.agg #[.int .i64 U, .int .i64 V, .bool true], .bool true]) (by simp [results, results217, go_sem, hb6_0, hb5_0, fb6_0, fb5_0, c0, c1, c2, cz]) rfl
  ·rw [decide_eq_false hc] at HBd
   by_cases hc2 : 0 < x
   ·obtain ⟨eE1, eE2⟩ := hE hc2
    rw [decide_eq_true hc2] at HBu
    obtain ⟨x2, y2, hx2, hy2, hyl2, HA2⟩ := oAlike s (x - 1) hs qo
    rw [← eE1, ← eE2] at HA2
    have HA2 : qH 262 #[.string s, .agg #[.int .i64 (E1), .int .i64 (E2)]] (.agg #[.int .i64 (att s x2), .int .i64 (fin s (att s y2))]) := HA2
    have HJ : qH 196 #[.agg #[.int .i64 (att s x), .int .i64 (fin s (att s y))], .agg #[.int .i64 (att s x2), .int .i64 (fin s (att s y2))]] (.agg #[.int .i64 (((min (att s x) (att s x2) : Nat) : Int)), .int .i64 (((max (fin s (att s y)) (fin s (att s y2)) : Nat) : Int))]) := fun ww => tJoin_nat _ _ _ _ ww
    have b1 := (att_in hyl2).1
    have b2 := fin_le b1
    refine ⟨min (att s x) (att s x2), max (fin s (att s y)) (fin s (att s y2)), true, true, by omega, by omega, fun w => ?_⟩
    generalize ((min (att s x) (att s x2) : Nat) : Int) = U at *
    generalize ((max (fin s (att s y)) (fin s (att s y2)) : Nat) : Int) = V at *
    generalize att s x2 = A9 at *
    generalize fin s (att s y2) = B9 at *
    clear a5 b1 b2 eE1 eE2 hD hE
    generalize att s x = AX at *
    generalize fin s (att s y) = FY at *
    go_enter func217, ntmps217
    go_wp2_with fail
    have G : Tri ((w.alloc (.cells #[.string s, .int .i64 p, .bool true] 213)).alloc (.cells #[.int .i64 0, .int .i64 0, .bool false] 186)) w.heap.size s p true := Tri.alloc (Tri.new _ _ _ _ _) _
    have Q : Tre ((w.alloc (.cells #[.string s, .int .i64 p, .bool true] 213)).alloc (.cells #[.int .i64 0, .int .i64 0, .bool false] 186)) (w.heap.size + 1) 0 0 false := by have := Tre.new (w.alloc (.cells #[.string s, .int .i64 p, .bool true] 213)) 0 0 false 186; simpa using this
    have hW0 : w.heap.size + 1 < ((w.alloc (.cells #[.string s, .int .i64 p, .bool true] 213)).alloc (.cells #[.int .i64 0, .int .i64 0, .bool false] 186)).heap.size := by simp
    have UW0 : Below w.heap.size w ((w.alloc (.cells #[.string s, .int .i64 p, .bool true] 213)).alloc (.cells #[.int .i64 0, .int .i64 0, .bool false] 186)) := by
     repeat exact qB
    generalize ((w.alloc (.cells #[.string s, .int .i64 p, .bool true] 213)).alloc (.cells #[.int .i64 0, .int .i64 0, .bool false] 186)) = W0 at *
    have gg0 := G.c0; have gg1 := G.c1
    go_wp2_with fail
    go_region_held3 (fun ww => ww.cell? ⟨w.heap.size, 0, none⟩ = some (.string s) ∧ ww.cell? ⟨w.heap.size, 1, none⟩ = some (.int .i64 p)) (exact qK) (first | (go_at_call 195; with_reducible refine Calls.mono (HL.out (W0.alloc (.cells #[.int .i64 0, .int .i64 0] 128)).drew) ?_; rintro r1 w1 ⟨rfl, h1⟩; have hz1 := h1.size; (try simp at hz1); (try have ⟨hl1_0, hk1_0⟩ := qL w.heap.size w1.heap.size); have nv0_0 : w1.cell? ⟨W0.heap.size, 0, none⟩ = some (.int .i64 0) := ((bcell h1).1 _ _ qO).trans qi; have nv0_1 : w1.cell? ⟨W0.heap.size, 1, none⟩ = some (.int .i64 0) := ((bcell h1).1 _ _ qO).trans qi; have nz0 : ∀ o, w1.frozen? ⟨W0.heap.size, o, none⟩ = false := fun o => ((bcell h1).2 _ o qO).trans qi; have nl0 : W0.heap.size < w1.heap.size := qo) | (go_at_call 195; with_reducible refine Calls.mono (HL.out W0.drew) ?_; rintro r1 w1 ⟨rfl, h1⟩; have hz1 := h1.size; (try simp at hz1); (try have ⟨hl1_0, hk1_0⟩ := qL w.heap.size w1.heap.size)) | (go_at_call 262; with_reducible refine Calls.mono (HA.out (w1.alloc (.cells #[.int .i64 0, .int .i64 0] 128))) ?_; rintro r2 w2 ⟨rfl, h2⟩; have hz2 := h2.size; (try simp at hz2); (try have ⟨hl2_0, hk2_0⟩ := qL w.heap.size w2.heap.size); (try have nv0_0 := memLater h2 nv0_0); (try have nv0_1 := memLater h2 nv0_1); (try have nz0 : ∀ o, w2.frozen? ⟨W0.heap.size, o, none⟩ = false := fun o => ((bcell h2).2 _ o qO).trans (nz0 o)); (try have nl0 : W0.heap.size < w2.heap.size := qo); have nv1_0 : w2.cell? ⟨w1.heap.size, 0, none⟩ = some (.int .i64 0) := ((bcell h2).1 _ _ qO).trans qi; have nv1_1 : w2.cell? ⟨w1.heap.size, 1, none⟩ = some (.int .i64 0) := ((bcell h2).1 _ _ qO).trans qi; have nz1 : ∀ o, w2.frozen? ⟨w1.heap.size, o, none⟩ = false := fun o => ((bcell h2).2 _ o qO).trans qi; have nl1 : w1.heap.size < w2.heap.size := qo) | (go_at_call 262; with_reducible refine Calls.mono (HA.out w1) ?_; rintro r2 w2 ⟨rfl, h2⟩; have hz2 := h2.size; (try simp at hz2); (try have ⟨hl2_0, hk2_0⟩ := qL w.heap.size w2.heap.size); (try have nv0_0 := memLater h2 nv0_0); (try have nv0_1 := memLater h2 nv0_1); (try have nz0 : ∀ o, w2.frozen? ⟨W0.heap.size, o, none⟩ = false := fun o => ((bcell h2).2 _ o qO).trans (nz0 o)); (try have nl0 : W0.heap.size < w2.heap.size := qo)))
    have E : PaAt w (w2.alloc (.cells #[.int .i64 AX, .int .i64 FY] 128)) w2.heap.size s p true AX FY := by
     exact qt59
    generalize (w2.alloc (.cells #[.int .i64 AX, .int .i64 FY] 128)) = W at *
    generalize w2.heap.size = k at *
    rotate_left
    have E : PaAt w ((w2.setCell ⟨w1.heap.size, 0, none⟩ (.int .i64 AX)).setCell ⟨w1.heap.size, 1, none⟩ (.int .i64 FY)) w1.heap.size s p true AX FY := by
     exact qt36
    generalize ((w2.setCell ⟨w1.heap.size, 0, none⟩ (.int .i64 AX)).setCell ⟨w1.heap.size, 1, none⟩ (.int .i64 FY)) = W at *
    generalize w1.heap.size = k at *
    rotate_left
    have E : PaAt w ((w2.setCell ⟨W0.heap.size, 0, none⟩ (.int .i64 AX)).setCell ⟨W0.heap.size, 1, none⟩ (.int .i64 FY)) W0.heap.size s p true AX FY := by
     exact qt37
    generalize ((w2.setCell ⟨W0.heap.size, 0, none⟩ (.int .i64 AX)).setCell ⟨W0.heap.size, 1, none⟩ (.int .i64 FY)) = W at *
    generalize W0.heap.size = k at *
    rotate_left
    all_goals
     obtain ⟨G, Q, T, up, lk⟩ := E
     have zu := up.size
     have g0 := G.c0; have g1 := G.c1; have g2 := G.c2
     have t0 := T.c0; have t1 := T.c1; have tl := T.lt
     have ⟨q0, q1, q2, qz, ql⟩ := Q
     go_wp2_with fail
     refine wp_loop_rounds 3 ?_
     rw [rounds_succ]
     go_wp2_with fail
     refine (HBd.out _).mono ?_
     rintro r3 w3 ⟨rfl, h3⟩
     obtain ⟨hc3, hf3, hz3⟩ := qb h3
     (try simp at hz3)
     have G3 : Tri w3 (w.heap.size) (s) (p) (true) := qTi
     have ⟨G3_0, G3_1, G3_2, G3_z, G3_l⟩ := G3
     have Q3 : Tre w3 (w.heap.size + 1) (0) (0) (false) := qTe
     have ⟨Q3_0, Q3_1, Q3_2, Q3_z, Q3_l⟩ := Q3
     have T3 : Two w3 (k) (AX) (FY) := qTw
     have ⟨T3_0, T3_1, T3_z, T3_l⟩ := T3
     clear hc3 hf3
     go_wp2_with fail
     rw [rounds_succ]
     go_wp2_with fail
     refine (HBu.out _).mono ?_
     rintro r4 w4 ⟨rfl, h4⟩
     obtain ⟨hc4, hf4, hz4⟩ := qb h4
     (try simp at hz4)
     have G4 : Tri w4 (w.heap.size) (s) (p) (true) := qTi
     have ⟨G4_0, G4_1, G4_2, G4_z, G4_l⟩ := G4
     have Q4 : Tre w4 (w.heap.size + 1) (0) (0) (false) := qTe
     have ⟨Q4_0, Q4_1, Q4_2, Q4_z, Q4_l⟩ := Q4
     have T4 : Two w4 (k) (AX) (FY) := qTw
     have ⟨T4_0, T4_1, T4_z, T4_l⟩ := T4
     clear hc4 hf4
     have N9 : Two (w4.alloc (.cells #[.int .i64 E1, .int .i64 E2] 128)) w4.heap.size E1 E2 := Two.new _ _ _ _
     have G9 := G4.alloc (.cells #[.int .i64 E1, .int .i64 E2] 128)
     have Q9 := Q4.alloc (.cells #[.int .i64 E1, .int .i64 E2] 128)
     have T9 := T4.alloc (.cells #[.int .i64 E1, .int .i64 E2] 128)
     have n0 := N9.c0; have n1 := N9.c1; have s0 := T9.c0; have s1 := T9.c1; have v0 := G9.c0
     have c0 := Q9.c0; have c1 := Q9.c1; have c2 := Q9.c2; have cz := Q9.fz
     go_wp2_with fail
     go_region_held3 (fun ww => ww.cell? ⟨k, 0, none⟩ = some (.int .i64 AX) ∧ ww.cell? ⟨k, 1, none⟩ = some (.int .i64 FY) ∧ ww.cell? ⟨w.heap.size, 0, none⟩ = some (.string s) ∧ ww.cell? ⟨w4.heap.size, 0, none⟩ = some (.int .i64 E1) ∧ ww.cell? ⟨w4.heap.size, 1, none⟩ = some (.int .i64 E2)) (exact qK) (first | (go_at_call 262; refine Calls.mono (HA2.out _) ?_; rintro r5 w5 ⟨rfl, h5⟩; have hz5 := h5.size; (try simp at hz5); (try have ⟨hl5_0, hk5_0⟩ := qL k w5.heap.size); (try have ⟨hl5_1, hk5_1⟩ := qL w.heap.size w5.heap.size); (try have ⟨hl5_2, hk5_2⟩ := qL w4.heap.size w5.heap.size); obtain ⟨hc5, hf5⟩ := bcell h5; have hb5_0 := fun o => hc5 (w.heap.size + 1) o qO; have fb5_0 := fun o => hf5 (w.heap.size + 1) o qO; (try have hg5_0 : w.heap.size + 1 < w5.heap.size := qo); clear hc5 hf5) | (go_at_call 196; refine Calls.mono (HJ.out _) ?_; rintro r6 w6 ⟨rfl, h6⟩; have hz6 := h6.size; (try simp at hz6); (try have ⟨hl6_0, hk6_0⟩ := qL k w6.heap.size); (try have ⟨hl6_1, hk6_1⟩ := qL w.heap.size w6.heap.size); (try have ⟨hl6_2, hk6_2⟩ := qL w4.heap.size w6.heap.size); obtain ⟨hc6, hf6⟩ := bcell h6; have hb6_0 := fun o => hc6 (w.heap.size + 1) o qO; have fb6_0 := fun o => hf6 (w.heap.size + 1) o qO; (try have hg6_0 : w.heap.size + 1 < w6.heap.size := qo); clear hc6 hf6))
     go_wp2
     (try rw [Exit.noGoto_ret])
     exact qV (.tuple #[.agg #[.int .i64 U, .int .i64 V, .bool true], .bool true]) (by simp [results, results217, go_sem, hb6_0, hb5_0, fb6_0, fb5_0, c0, c1, c2, cz]) rfl
   ·rw [decide_eq_false hc2] at HBu
    refine ⟨0, 0, false, false, Nat.le_refl _, Nat.zero_le _, fun w => ?_⟩
    clear a5 hD hE
    generalize att s x = AX at *
    generalize fin s (att s y) = FY at *
    go_enter func217, ntmps217
    go_wp2_with fail
    have G : Tri ((w.alloc (.cells #[.string s, .int .i64 p, .bool true] 213)).alloc (.cells #[.int .i64 0, .int .i64 0, .bool false] 186)) w.heap.size s p true := Tri.alloc (Tri.new _ _ _ _ _) _
    have Q : Tre ((w.alloc (.cells #[.string s, .int .i64 p, .bool true] 213)).alloc (.cells #[.int .i64 0, .int .i64 0, .bool false] 186)) (w.heap.size + 1) 0 0 false := by have := Tre.new (w.alloc (.cells #[.string s, .int .i64 p, .bool true] 213)) 0 0 false 186; simpa using this
    have hW0 : w.heap.size + 1 < ((w.alloc (.cells #[.string s, .int .i64 p, .bool true] 213)).alloc (.cells #[.int .i64 0, .int .i64 0, .bool false] 186)).heap.size := by simp
    have UW0 : Below w.heap.size w ((w.alloc (.cells #[.string s, .int .i64 p, .bool true] 213)).alloc (.cells #[.int .i64 0, .int .i64 0, .bool false] 186)) := by
     repeat exact qB
    generalize ((w.alloc (.cells #[.string s, .int .i64 p, .bool true] 213)).alloc (.cells #[.int .i64 0, .int .i64 0, .bool false] 186)) = W0 at *
    have gg0 := G.c0; have gg1 := G.c1
    go_wp2_with fail
    go_region_held3 (fun ww => ww.cell? ⟨w.heap.size, 0, none⟩ = some (.string s) ∧ ww.cell? ⟨w.heap.size, 1, none⟩ = some (.int .i64 p)) (exact qK) (first | (go_at_call 195; with_reducible refine Calls.mono (HL.out (W0.alloc (.cells #[.int .i64 0, .int .i64 0] 128)).drew) ?_; rintro r1 w1 ⟨rfl, h1⟩; have hz1 := h1.size; (try simp at hz1); (try have ⟨hl1_0, hk1_0⟩ := qL w.heap.size w1.heap.size); have nv0_0 : w1.cell? ⟨W0.heap.size, 0, none⟩ = some (.int .i64 0) := ((bcell h1).1 _ _ qO).trans qi; have nv0_1 : w1.cell? ⟨W0.heap.size, 1, none⟩ = some (.int .i64 0) := ((bcell h1).1 _ _ qO).trans qi; have nz0 : ∀ o, w1.frozen? ⟨W0.heap.size, o, none⟩ = false := fun o => ((bcell h1).2 _ o qO).trans qi; have nl0 : W0.heap.size < w1.heap.size := qo) | (go_at_call 195; with_reducible refine Calls.mono (HL.out W0.drew) ?_; rintro r1 w1 ⟨rfl, h1⟩; have hz1 := h1.size; (try simp at hz1); (try have ⟨hl1_0, hk1_0⟩ := qL w.heap.size w1.heap.size)) | (go_at_call 262; with_reducible refine Calls.mono (HA.out (w1.alloc (.cells #[.int .i64 0, .int .i64 0] 128))) ?_; rintro r2 w2 ⟨rfl, h2⟩; have hz2 := h2.size; (try simp at hz2); (try have ⟨hl2_0, hk2_0⟩ := qL w.heap.size w2.heap.size); (try have nv0_0 := memLater h2 nv0_0); (try have nv0_1 := memLater h2 nv0_1); (try have nz0 : ∀ o, w2.frozen? ⟨W0.heap.size, o, none⟩ = false := fun o => ((bcell h2).2 _ o qO).trans (nz0 o)); (try have nl0 : W0.heap.size < w2.heap.size := qo); have nv1_0 : w2.cell? ⟨w1.heap.size, 0, none⟩ = some (.int .i64 0) := ((bcell h2).1 _ _ qO).trans qi; have nv1_1 : w2.cell? ⟨w1.heap.size, 1, none⟩ = some (.int .i64 0) := ((bcell h2).1 _ _ qO).trans qi; have nz1 : ∀ o, w2.frozen? ⟨w1.heap.size, o, none⟩ = false := fun o => ((bcell h2).2 _ o qO).trans qi; have nl1 : w1.heap.size < w2.heap.size := qo) | (go_at_call 262; with_reducible refine Calls.mono (HA.out w1) ?_; rintro r2 w2 ⟨rfl, h2⟩; have hz2 := h2.size; (try simp at hz2); (try have ⟨hl2_0, hk2_0⟩ := qL w.heap.size w2.heap.size); (try have nv0_0 := memLater h2 nv0_0); (try have nv0_1 := memLater h2 nv0_1); (try have nz0 : ∀ o, w2.frozen? ⟨W0.heap.size, o, none⟩ = false := fun o => ((bcell h2).2 _ o qO).trans (nz0 o)); (try have nl0 : W0.heap.size < w2.heap.size := qo)))
    have E : PaAt w (w2.alloc (.cells #[.int .i64 AX, .int .i64 FY] 128)) w2.heap.size s p true AX FY := by
     exact qt59
    generalize (w2.alloc (.cells #[.int .i64 AX, .int .i64 FY] 128)) = W at *
    generalize w2.heap.size = k at *
    rotate_left
    have E : PaAt w ((w2.setCell ⟨w1.heap.size, 0, none⟩ (.int .i64 AX)).setCell ⟨w1.heap.size, 1, none⟩ (.int .i64 FY)) w1.heap.size s p true AX FY := by
     exact qt36
    generalize ((w2.setCell ⟨w1.heap.size, 0, none⟩ (.int .i64 AX)).setCell ⟨w1.heap.size, 1, none⟩ (.int .i64 FY)) = W at *
    generalize w1.heap.size = k at *
    rotate_left
    have E : PaAt w ((w2.setCell ⟨W0.heap.size, 0, none⟩ (.int .i64 AX)).setCell ⟨W0.heap.size, 1, none⟩ (.int .i64 FY)) W0.heap.size s p true AX FY := by
     exact qt37
    generalize ((w2.setCell ⟨W0.heap.size, 0, none⟩ (.int .i64 AX)).setCell ⟨W0.heap.size, 1, none⟩ (.int .i64 FY)) = W at *
    generalize W0.heap.size = k at *
    rotate_left
    all_goals
     obtain ⟨G, Q, T, up, lk⟩ := E
     have zu := up.size
     have g0 := G.c0; have g1 := G.c1; have g2 := G.c2
     have t0 := T.c0; have t1 := T.c1; have tl := T.lt
     have ⟨q0, q1, q2, qz, ql⟩ := Q
     go_wp2_with fail
     refine wp_loop_rounds 3 ?_
     rw [rounds_succ]
     go_wp2_with fail
     refine (HBd.out _).mono ?_
     rintro r3 w3 ⟨rfl, h3⟩
     obtain ⟨hc3, hf3, hz3⟩ := qb h3
     (try simp at hz3)
     have G3 : Tri w3 (w.heap.size) (s) (p) (true) := qTi
     have ⟨G3_0, G3_1, G3_2, G3_z, G3_l⟩ := G3
     have Q3 : Tre w3 (w.heap.size + 1) (0) (0) (false) := qTe
     have ⟨Q3_0, Q3_1, Q3_2, Q3_z, Q3_l⟩ := Q3
     have T3 : Two w3 (k) (AX) (FY) := qTw
     have ⟨T3_0, T3_1, T3_z, T3_l⟩ := T3
     clear hc3 hf3
     go_wp2_with fail
     rw [rounds_succ]
     go_wp2_with fail
     refine (HBu.out _).mono ?_
     rintro r4 w4 ⟨rfl, h4⟩
     obtain ⟨hc4, hf4, hz4⟩ := qb h4
     (try simp at hz4)
     have G4 : Tri w4 (w.heap.size) (s) (p) (true) := qTi
     have ⟨G4_0, G4_1, G4_2, G4_z, G4_l⟩ := G4
     have Q4 : Tre w4 (w.heap.size + 1) (0) (0) (false) := qTe
     have ⟨Q4_0, Q4_1, Q4_2, Q4_z, Q4_l⟩ := Q4
     have T4 : Two w4 (k) (AX) (FY) := qTw
     have ⟨T4_0, T4_1, T4_z, T4_l⟩ := T4
     clear hc4 hf4
     go_wp2_with fail
     rw [rounds_succ]
     go_wp2
     exact qV (.tuple #[.agg #[.int .i64 0, .int .i64 0, .bool false], .bool false]) (by simp [results, results217, go_sem, Q4_0, Q4_1, Q4_2, Q4_z, Q4_l]) rfl
