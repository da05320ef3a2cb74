/- A part. -/
import Derived.Test.YtlendfhehhacpaaGreatP24
import Derived.Test.YtlendfhehhacpaaGreatP19
set_option linter.unusedVariables false
set_option linter.unusedSimpArgs false
set_option maxRecDepth 100000
set_option maxHeartbeats 8000000
namespace Go.Proofs.YtlendfhehhacpaaGreat
open Go.RowKit
theorem sWordEnd_any (s : ByteArray) (r : Nat) (g : Bool) (w : World) (hs : s.size ≤ 1000) (hr : r ≤ s.size) :
  qC 252 #[.string s, .int .i64 r, .bool g] w (.int .i64 (Nib.wes s g r)) := by
 by_cases he : r = s.size
 ·subst he
  rw [Nib.wes_end]
  go_enter Tryz.func252, Tryz.ntmps252
  go_wp2_with fail
  refine (tEnd_any s _).mono ?_
  rintro e w' ⟨rfl, rfl⟩
  go_wp2
  all_goals
   first
    | (exact qV (.int .i64 s.size) (by simp [results, Tryz.results252, go_sem]) rfl)
 ·have hlt : r < s.size := by omega
  have HI : qH 282 #[.string s, .int .i64 ((r : Int) + 1), .bool false] (.int .i64 (Nib.up (Nib.sp s) s.size (r + 1) : Nat)) := by
   intro ww
   refine sNextInk_any s (r + 1) false (Nib.sp s) ww hs qo ?_ ?_ ?_
   ·intro i h; exact h
   ·intro i _ _ h _; exact h
   ·intro h; exact absurd h qi
  have hle : Nib.up (Nib.sp s) s.size (r + 1) ≤ s.size := Nib.up_le qo
  rw [Nib.wes_eq hlt]
  have hne : ((r : Int) == (s.size : Int)) = false := by simp; omega
  clear he
  by_cases hq : Nib.up (Nib.sp s) s.size (r + 1) = s.size
  ·rw [if_pos hq]
   rw [hq] at HI
   clear hq hle
   go_enter Tryz.func252, Tryz.ntmps252
   go_wp2_with fail
   refine (tEnd_any s _).mono ?_
   rintro e w' ⟨rfl, rfl⟩
   go_wp2_with fail
   refine (HI.out _).mono ?_
   rintro e w1 ⟨rfl, h1⟩
   obtain ⟨hc1, hf1, hz1⟩ := qb h1
   try simp at hz1
   go_wp2_with fail
   refine (tEnd_any s _).mono ?_
   rintro e w' ⟨rfl, rfl⟩
   go_wp2
   all_goals
    first
     | (exact qV (.int .i64 r) (by simp [results, Tryz.results252, go_sem]) rfl)
  ·rw [if_neg hq]
   have hql : Nib.up (Nib.sp s) s.size (r + 1) < s.size := by omega
   have hsp : Nib.sp s (Nib.up (Nib.sp s) s.size (r + 1)) = false := Nib.up_end hql
   generalize Nib.up (Nib.sp s) s.size (r + 1) = q at *
   have hnl : Nib.bt s q ≠ 10 := by have := Nib.spc_nl_f (s := s) (i := q) hsp; unfold Nib.nl at this; simpa using this
   have HR : qH 256 #[.string s, .int .i64 q, .bool g] (.agg #[.int .i64 (Nib.runB s q g), .int .i64 (Nib.wrun s q g)]) := fun ww => tRun_any s q q g ww hs rfl hql hnl
   have hgt := Nib.wrun_gt (g := g) hql
   have hwl := Nib.wrun_le (g := g) (show q ≤ s.size by omega)
   have hx := ix1 (Nib.runB s q g) (Nib.wrun s q g)
   clear hsp hnl
   generalize Nib.runB s q g = A at *
   generalize Nib.wrun s q g = B at *
   have hne2 : ((q : Int) == (s.size : Int)) = false := by simp; omega
   go_enter Tryz.func252, Tryz.ntmps252
   go_wp2_with fail
   refine (tEnd_any s _).mono ?_
   rintro e w' ⟨rfl, rfl⟩
   go_wp2_with fail
   refine (HI.out _).mono ?_
   rintro e w1 ⟨rfl, h1⟩
   obtain ⟨hc1, hf1, hz1⟩ := qb h1
   try simp at hz1
   go_wp2_with fail
   refine (tEnd_any s _).mono ?_
   rintro e w' ⟨rfl, rfl⟩
   go_wp2_with fail
   refine (HR.out _).mono ?_
   rintro e w2 ⟨rfl, h2⟩
   obtain ⟨hc2, hf2, hz2⟩ := qb h2
   try simp at hz2
   go_wp2
   all_goals
    first
     | (exact qV (.int .i64 ((B : Int) - 1)) (by simp [results, Tryz.results252, go_sem]) (ret_int qo))
theorem sToWordEnd_any (s : ByteArray) (p n : Nat) (v c g : Bool) (w : World) (hs : s.size ≤ 1000) (hp : p ≤ s.size) (hn : n ≤ 99) :
  qC 210 #[.agg #[.string s, .int .i64 (p), .int .i64 (n), .bool v, .bool c], .bool g] w (.tuple #[.agg #[.int .i64 (wayX (Nib.endWay s g (max n 1) (p : Int))), .int .i64 (wayK (Nib.endWay s g (max n 1) (p : Int)))], .bool (wayZ (Nib.endWay s g (max n 1) (p : Int)))]) := by
 have HP : Hid (∀ (q : Nat), q ≤ s.size → ∀ ww, qC 252 #[.string s, .int .i64 q, .bool g] ww (.int .i64 (Nib.wes s g q))) := fun q hq ww => sWordEnd_any s q g ww hs hq
 have HN : qH 241 #[.agg #[.string s, .int .i64 (p), .int .i64 (n), .bool v, .bool c]] (.int .i64 ((max n 1 : Nat) : Int)) := by
  exact qt45
 have hN1 : 1 ≤ max n 1 := by omega
 have hN2 : max n 1 ≤ 99 := by omega
 generalize max n 1 = N at *
 have HU : qH 240 #[.agg #[.string s, .int .i64 (p), .int .i64 (n), .bool v, .bool c], .int .i64 (Nib.itr (Nib.wes s g) N p : Nat), .int .i64 1] (.tuple #[.agg #[.int .i64 (wayX (Nib.endWay s g N (p : Int))), .int .i64 (wayK (Nib.endWay s g N (p : Int)))], .bool (wayZ (Nib.endWay s g N (p : Int)))]) := by
  intro ww
  refine sUnless_way s p n _ 1 v c ww ?_
  have := Nib.endWay_itr s g p N hN1
  exact ⟨this.1.symm, fun h => ⟨(this.2 (this.1.trans h)).1.symm, (this.2 (this.1.trans h)).2.symm⟩⟩
 generalize Nib.endWay s g N (p : Int) = R at *
 go_enter Tryz.func210, Tryz.ntmps210
 have F : Five ((w.alloc (.cells #[.string s, .int .i64 (p), .int .i64 (n), .bool v, .bool c] 206)).alloc (.cells #[.int .i64 0, .int .i64 0] 202)) w.heap.size s p n v c := Five.alloc (Five.new _ _ _ _ _ _ _) _
 have RB : Two ((w.alloc (.cells #[.string s, .int .i64 (p), .int .i64 (n), .bool v, .bool c] 206)).alloc (.cells #[.int .i64 0, .int .i64 0] 202)) (w.heap.size + 1) 0 0 := qN
 go_wp2_with fail
 refine (HN.out _).mono ?_
 rintro r1 w1 ⟨rfl, h1⟩
 obtain ⟨hc1, hf1, hz1⟩ := qb h1
 (try simp at hz1)
 have F1 : Five w1 (w.heap.size) s p n v c := qF
 have ⟨F1_0, F1_1, F1_2, F1_3, F1_4, F1_z, F1_l⟩ := F1
 have RB1 : Two w1 (w.heap.size + 1) (0) (0) := qTw
 have ⟨RB1_0, RB1_1, RB1_z, RB1_l⟩ := RB1
 go_wp2
 go_loopw [6, 11] (fun q i wr => ∃ k : Nat, k ≤ N ∧ q = .int .i64 (Nib.itr (Nib.wes s g) k p : Nat) ∧ i = .int .i64 k ∧ Five wr w.heap.size s p n v c ∧ Two wr (w.heap.size + 1) 0 0 ∧ Below w.heap.size w wr) (fun _ i _ => N - (intOf i).toNat)
 case atStart =>
  refine ⟨0, by omega, rfl, rfl, F1, RB1, ?_⟩
  repeat exact qB
 case round =>
  clear F RB h1 hc1 hf1 F1_0 F1_1 F1_2 F1_3 F1_4 F1_z F1_l RB1_0 RB1_1 RB1_z RB1_l
  obtain ⟨k, hk, rfl, rfl, F, RB, hB⟩ := hrel
  have hq := Nib.itr_wes_le (g := g) hp k
  have ⟨f0, f1, f2, f3, f4, fz, fl⟩ := F
  have r0 := (RB).c0
  have r1 := (RB).c1
  have rz := (RB).fz
  have rl := (RB).lt
  have hzz := hB.size
  by_cases hlt : k < N
  ·have HS : qH 252 #[.string s, .int .i64 (Nib.itr (Nib.wes s g) k p : Nat), .bool g] (.int .i64 (Nib.itr (Nib.wes s g) (k + 1) p : Nat)) := fun ww => HP.out _ hq ww
   generalize hA : Nib.itr (Nib.wes s g) (k + 1) p = A at *
   exact qt34
  ·have ek : k = N := by omega
   subst ek
   generalize Nib.itr (Nib.wes s g) k p = A at *
   go_wp2_with fail
   refine (HU.out _).mono ?_
   rintro r2 w2 ⟨rfl, h2⟩
   obtain ⟨hc2, hf2, hz2⟩ := qb h2
   (try simp at hz2)
   have RB2 : Two w2 (w.heap.size + 1) (0) (0) := qTw
   have ⟨RB2_0, RB2_1, RB2_z, RB2_l⟩ := RB2
   go_wp2
   all_goals
    first
     | (exact qV (.tuple #[.agg #[.int .i64 (wayX (R)), .int .i64 (wayK (R))], .bool (wayZ (R))]) (by simp [results, Tryz.results210, go_sem, RB2_0, RB2_1, RB2_z, RB2_l]) rfl)
theorem iWipe_none (r d : Nat) (p : Pg) (w : World) (h : RdAt w r d p) (hp : p.pl = 0) :
  qC 308 #[.agg #[.pointer (some ⟨d, 0, none⟩)]] w (.tuple #[]) := by
 have d1 := h.dk.c1
 rw [hp] at d1
 have hld := h.dk.lt
 have l1 : d < w.heap.size + 1 := by omega
 clear h hp
 go_enter Tryz.func308, Tryz.ntmps308
 go_wp2
 first | go_end0 | refine bodyPost_ret (results_none rfl _ _ _) rfl ?_
 refine ⟨rfl, ?_⟩
 repeat exact qB
theorem iWipe_one (r d : Nat) (p : Pg) (k : Nat) (w : World) (h : RdAt w r d p) (hp : p.pl = k + 1) (hs : p.t.size ≤ 1000) (hk : p.pl ≤ p.t.size) :
  Calls Tryz.prog 308 #[.agg #[.pointer (some ⟨d, 0, none⟩)]] w fun e w' => e = .returned (.tuple #[]) ∧ RdAt w' r d { p with t := p.t.extract 0 k ++ p.t.extract (k + 1) p.t.size, pl := k } ∧ Upd [d] w w' := by
 have HW : qH 192 #[.string p.t, .agg #[.int .i64 (((k : Nat) : Int)), .int .i64 (((k : Int) + 1))], .string ⟨#[]⟩] (.string (p.t.extract 0 k ++ p.t.extract (k + 1) p.t.size)) := by
  intro ww
  have := tWith_any p.t ⟨#[]⟩ k ((k : Int) + 1) k (k + 1) ww hs qd rfl qo qo qo
  rw [show p.t.extract 0 k ++ (⟨#[]⟩ : ByteArray) = p.t.extract 0 k from ByteArray.append_empty] at this
  exact this
 have HS : Hid (∀ ww, RdAt ww r d p → RdAt ((ww.setCell ⟨d, 0, none⟩ (.string (p.t.extract 0 k ++ p.t.extract (k + 1) p.t.size))).setCell ⟨d, 1, none⟩ (.int .i64 (k : Nat))) r d { p with t := p.t.extract 0 k ++ p.t.extract (k + 1) p.t.size, pl := k }) := fun ww hh => (hh.set_t _).set_pl k
 have H := h
 have d0 := h.dk.c0
 have d1 := h.dk.c1
 rw [hp] at d1
 have fz := h.dk.fz
 have hld := h.dk.lt
 have l1 : d < w.heap.size + 1 := by omega
 have hn : ¬ ((k : Int) + 1) = 0 := by omega
 generalize hP2 : ({ p with t := p.t.extract 0 k ++ p.t.extract (k + 1) p.t.size, pl := k } : Pg) = p2 at *
 generalize p.t.extract 0 k ++ p.t.extract (k + 1) p.t.size = X at *
 clear h hP2
 have hwr : IntKind.i64.wrap (((k : Nat) : Int) + 1 - 1) = (k : Int) := by rw [IntKind.wrap_i64]; omega
 go_enter Tryz.func308, Tryz.ntmps308
 go_wp2_with fail
 have g0 : (w.alloc (.cells #[.pointer (some ⟨d, 0, none⟩)] 80)).cell? ⟨w.heap.size, 0, none⟩ = some (.pointer (some ⟨d, 0, none⟩)) := by simp
 have d1' : (w.alloc (.cells #[.pointer (some ⟨d, 0, none⟩)] 80)).cell? ⟨d, 1, none⟩ = some (.int .i64 ((k : Int) + 1)) := memLater ((Below.refl _ _).alloc (Nat.le_refl _) _) (by rw [d1]; rfl)
 have d0' : (w.alloc (.cells #[.pointer (some ⟨d, 0, none⟩)] 80)).cell? ⟨d, 0, none⟩ = some (.string p.t) := memLater ((Below.refl _ _).alloc (Nat.le_refl _) _) d0
 refine wp_region_held_drew (S := fun ww => ww.cell? ⟨w.heap.size, 0, none⟩ = some (.pointer (some ⟨d, 0, none⟩)) ∧ ww.cell? ⟨d, 1, none⟩ = some (.int .i64 ((k : Int) + 1))) qk ?_ (fun hHeld => ?_)
 ·exact ⟨memLater ((Below.refl _ _).drew) g0, memLater ((Below.refl _ _).drew) d1'⟩
 refine qT 0 ?_
 simp only [Act.put, qP]
 refine qT 1 ?_
 simp only [Act.put, qP]
 refine qT 2 ?_
 simp only [Act.put, qP]
 refine qT 3 ?_
 simp only [Act.put, qP]
 refine qT 4 ?_
 simp only [Act.put, qP]
 refine qT 5 ?_
 simp only [Act.put, qP]
 refine qT 7 ?_
 simp only [Act.put, qP]
 refine qT 8 ?_
 simp only [Act.put, qP]
 refine qT 9 ?_
 simp only [Act.put, qP]
 refine qT 10 ?_
 simp only [Act.put, qP]
 refine qT 11 ?_
 simp only [Act.put, qP]
 refine qT 12 ?_
 simp only [Act.put, qP]
 refine qT 13 ?_
 simp only [Act.put, qP]
 refine qT 14 ?_
 simp only [Act.put, qP]
 refine qT 15 ?_
 simp only [Act.put, qP]
 refine qT 16 ?_
 simp only [Act.put, qP]
 refine qT 17 ?_
 simp only [Act.put, qP]
 refine qT 18 ?_
 simp only [Act.put, qP]
 refine qR 6 fun K hK => ?_
 rw [if_pos (by rfl)]
 go_wp2_with fail
 refine hK.out _ _ ?_ (fun hHeld => ?_)
 ·exact ⟨memLater ((Below.refl _ _).drew) g0, memLater ((Below.refl _ _).drew) d1'⟩
 clear hK K
 try simp only [Act.put, qP]
 refine qR 19 fun K hK => ?_
 rw [if_pos (by rfl)]
 go_wp2_with fail
 refine (HW.out _).mono ?_
 rintro r1 w1 ⟨rfl, h1⟩
 obtain ⟨hc1, hf1, hz1⟩ := qb h1
 (try simp at hz1)
 go_wp2_with fail
 refine hK.out _ _ ?_ (fun hHeld => ?_)
 ·exact ⟨memLater h1 (memLater ((Below.refl _ _).drew) g0), memLater h1 (memLater ((Below.refl _ _).drew) d1')⟩
 clear hK K
 try simp only [Act.put, qP]
 have H1 := ((H.alloc (.cells #[.pointer (some ⟨d, 0, none⟩)] 80)).drew).below h1
 have e0 := H1.dk.c0
 have e1 := H1.dk.c1
 rw [hp] at e1
 have ez := H1.dk.fz
 have el := H1.dk.lt
 have eg := memLater h1 (memLater ((Below.refl _ _).drew) g0)
 refine qT 20 ?_
 simp only [Act.put, qP]
 refine qT 21 ?_
 simp only [Act.put, qP]
 refine qR 22 fun K hK => ?_
 rw [if_pos (by rfl)]
 go_wp2_with fail
 refine hK.out _ _ ?_ (fun hHeld => ?_)
 ·exact ⟨by go_simp, by go_simp⟩
 clear hK K
 try simp only [Act.put, qP]
 refine wpAnyH_done qk ?_ _
 have HS2 := HS.out _ H1
 go_wp2
 first | go_end0 | refine bodyPost_ret (results_none rfl _ _ _) rfl ?_
 refine ⟨rfl, ?_, ?_⟩
 ·first | exact HS2 | trace_state
 ·repeat exact qU
def mkP (p : Pg) (i j : Nat) (l : Bool) : Pg := if i = j ∧ l = false then p else { p with pl := Nib.clm p.t (if l then Nib.beg p.t j else max i (j - 1)), anchor := i }
def mkO (i j : Nat) (l : Bool) : Int := if i = j ∧ l = false then 4 else 1
theorem qt48 {P : Prop} (h : P := by
  have H3 := h3
  have a5 := u3.was (b := w.heap.size) (o := 0) (v := .int .i64 i) (memLater h2 (memLater ((Below.refl _ _).drew) g0)) qs
  have U3 : Upd [d] w w3 := by
   repeat exact qU
  have z3 := U3.size
  have k3 : w.heap.size < w3.heap.size := by have := u3.size; have := h2.size; simp at this; omega
  clear h1 h2 u3 g0 g1 g2 a2 a1 r1 d1 H1
  have r3 := H3.bg.c0
  have d3 := H3.dk.c2
  have dz := H3.dk.fz
  have dl3 := H3.dk.lt
  have rl3 := H3.bg.lt
  go_wp2_with fail
  go_region_held3 (fun ww => ww.cell? ⟨r, 0, none⟩ = some (.pointer (some ⟨d, 0, none⟩)) ∧ ww.cell? ⟨w.heap.size, 0, none⟩ = some (.int .i64 i)) (exact qK) (fail)
  have HS2 := HS.out _ H3
  exact qt16
 ) : P := h
theorem mMarkAll (r d : Nat) (p : Pg) (i j : Nat) (l : Bool) (w : World) (h : RdAt w r d p) (hs : p.t.size ≤ 1000) (hij : i ≤ j) (hj : j ≤ p.t.size) :
  Calls Tryz.prog 213 #[.pointer (some ⟨r, 0, none⟩), .agg #[.int .i64 i, .int .i64 j, .bool l]] w fun e w' => e = .returned (.int .i64 (mkO i j l)) ∧ RdAt w' r d (mkP p i j l) ∧ Upd [d] w w' := by
 have H := h
 have b0 := h.bg.c0
 have bl := h.bg.lt
 have c0 := h.dk.c0
 have dl := h.dk.lt
 have l1 : r < w.heap.size + 1 := by omega
 have l2 : d < w.heap.size + 1 := by omega
 have HN := fun ww => tNothing_any i j l ww
 unfold mkP mkO
 by_cases hn : i = j ∧ l = false
 ·rw [if_pos hn, if_pos hn]
  obtain ⟨e1, e2⟩ := hn
  subst e1 e2
  have HN2 : qH 172 #[.agg #[.int .i64 i, .int .i64 i, .bool false]] (.bool true) := by
   intro ww
   have := HN ww
   rw [show (((i : Int) == i) && !false) = true by simp] at this
   exact this
  clear HN
  go_enter Tryz.func213, Tryz.ntmps213
  go_wp2_with fail
  refine (HN2.out _).mono ?_
  rintro e w1 ⟨rfl, h1⟩
  obtain ⟨hc1, hf1, hz1⟩ := qb h1
  try simp at hz1
  exact qt16
 ·rw [if_neg hn, if_neg hn]
  have HN2 : qH 172 #[.agg #[.int .i64 i, .int .i64 j, .bool l]] (.bool false) := by
   intro ww
   have := HN ww
   rw [show (((i : Int) == j) && !l) = false by
    rw [Bool.and_eq_false_iff]
    by_cases e : i = j
    ·right; cases l
     ·exact absurd ⟨e, rfl⟩ hn
     ·rfl
    ·left; simp; omega] at this
   exact this
  clear HN hn
  have HLi : qH 195 #[.string p.t, .int .i64 j] (.agg #[.int .i64 (Nib.beg p.t j), .int .i64 (Nib.fin p.t j)]) := fun ww => tLine_any p.t j j ww hs rfl hj
  have HLa : qH 202 #[.agg #[.int .i64 (i), .int .i64 (j)]] (.int .i64 ((max i (j - 1) : Nat) : Int)) := by
   intro ww
   have := tLast_any i j ww qo
   rw [show max (i : Int) (j - 1) = ((max i (j - 1) : Nat) : Int) by omega] at this
   exact this
  have hbl := Nib.beg_le p.t j
  have hpl : (if l then Nib.beg p.t j else max i (j - 1)) ≤ p.t.size := by split <;> omega
  obtain ⟨P, hP, hP2⟩ : ∃ P : Nat, P = (if l then Nib.beg p.t j else max i (j - 1)) ∧ ((l = true ∧ P = Nib.beg p.t j) ∨ (l = false ∧ P = max i (j - 1))) := ⟨_, rfl, by cases l <;> simp⟩
  rw [← hP] at hpl ⊢
  have HM : Hid (∀ ww, RdAt ww r d p → Calls Tryz.prog 179 #[.pointer (some ⟨d, 0, none⟩), .int .i64 P] ww fun e w' => e = .returned (.tuple #[]) ∧ RdAt w' r d { p with pl := Nib.clm p.t P } ∧ Upd [d] ww w') := fun ww hh => mMoveTo r d p P P ww hh hs rfl hpl
  have HS : Hid (∀ ww, RdAt ww r d { p with pl := Nib.clm p.t P } → RdAt (ww.setCell ⟨d, 2, none⟩ (.int .i64 i)) r d { p with pl := Nib.clm p.t P, anchor := i }) := fun ww hh => hh.set_anchor i
  have hx := ix0 (Nib.beg p.t j) (Nib.fin p.t j)
  generalize hp2 : ({ p with pl := Nib.clm p.t P, anchor := i } : Pg) = p2 at *
  generalize hp3 : ({ p with pl := Nib.clm p.t P } : Pg) = p3 at *
  generalize Nib.beg p.t j = LB at *
  generalize Nib.fin p.t j = LE at *
  generalize max i (j - 1) = MX at *
  have q3 : p3.t = p.t := by rw [← hp3]
  clear hp2 hp3 hP hbl
  rcases hP2 with ⟨el, eP⟩ | ⟨el, eP⟩
  ·subst el eP
   go_enter Tryz.func213, Tryz.ntmps213
   go_wp2_with fail
   refine (HN2.out _).mono ?_
   rintro e w1 ⟨rfl, h1⟩
   obtain ⟨hc1, hf1, hz1⟩ := qb h1
   try simp at hz1
   have g0 : w1.cell? ⟨w.heap.size, 0, none⟩ = some (.int .i64 i) := memLater h1 qi
   have g1 : w1.cell? ⟨w.heap.size, 1, none⟩ = some (.int .i64 j) := memLater h1 qi
   have g2 : w1.cell? ⟨w.heap.size, 2, none⟩ = some (.bool true) := memLater h1 qi
   have k1 : w.heap.size < w1.heap.size := by omega
   have H1 := (H.alloc (.cells #[.int .i64 i, .int .i64 j, .bool true] 186)).below h1
   have r1 := H1.bg.c0
   have d1 := H1.dk.c0
   clear hc1 hf1
   go_wp2_with fail
   go_region_held3 (fun ww => ww.cell? ⟨r, 0, none⟩ = some (.pointer (some ⟨d, 0, none⟩)) ∧ ww.cell? ⟨d, 0, none⟩ = some (.string p.t) ∧ ww.cell? ⟨w.heap.size, 1, none⟩ = some (.int .i64 j)) (exact qK) (first | (go_at_call 195; refine Calls.mono (HLi.out _) ?_; rintro r2 w2 ⟨rfl, h2⟩; have hz2 := h2.size; (try simp at hz2); (try have ⟨hl2_0, hk2_0⟩ := qL d w2.heap.size); (try have ⟨hl2_1, hk2_1⟩ := qL r w2.heap.size); (try have ⟨hl2_2, hk2_2⟩ := qL w.heap.size w2.heap.size)) | (go_at_call 179; refine Calls.mono (HM.out _ qRd) ?_; rintro r3 w3 ⟨rfl, h3, u3⟩; have hz3 := u3.size; (try simp at hz3); have a0 := h3.bg.c0; have a1 := h3.dk.c0; rw [q3] at a1; have a2 := u3.was (b := w.heap.size) (o := 1) (v := .int .i64 j) (memLater h2 (memLater ((Below.refl _ _).drew) g1)) qs))
   exact qt48
  ·subst el eP
   go_enter Tryz.func213, Tryz.ntmps213
   go_wp2_with fail
   refine (HN2.out _).mono ?_
   rintro e w1 ⟨rfl, h1⟩
   obtain ⟨hc1, hf1, hz1⟩ := qb h1
   try simp at hz1
   have g0 : w1.cell? ⟨w.heap.size, 0, none⟩ = some (.int .i64 i) := memLater h1 qi
   have g1 : w1.cell? ⟨w.heap.size, 1, none⟩ = some (.int .i64 j) := memLater h1 qi
   have g2 : w1.cell? ⟨w.heap.size, 2, none⟩ = some (.bool false) := memLater h1 qi
   have k1 : w.heap.size < w1.heap.size := by omega
   have H1 := (H.alloc (.cells #[.int .i64 i, .int .i64 j, .bool false] 186)).below h1
   have r1 := H1.bg.c0
   have d1 := H1.dk.c0
   clear hc1 hf1
   go_wp2_with fail
   go_region_held3 (fun ww => ww.cell? ⟨r, 0, none⟩ = some (.pointer (some ⟨d, 0, none⟩)) ∧ ww.cell? ⟨w.heap.size, 0, none⟩ = some (.int .i64 i) ∧ ww.cell? ⟨w.heap.size, 1, none⟩ = some (.int .i64 j)) (exact qK) (first | (go_at_call 202; refine Calls.mono (HLa.out _) ?_; rintro r2 w2 ⟨rfl, h2⟩; have hz2 := h2.size; (try simp at hz2); (try have ⟨hl2_0, hk2_0⟩ := qL r w2.heap.size); (try have ⟨hl2_1, hk2_1⟩ := qL w.heap.size w2.heap.size)) | (go_at_call 179; refine Calls.mono (HM.out _ qRd) ?_; rintro r3 w3 ⟨rfl, h3, u3⟩; have hz3 := u3.size; (try simp at hz3); have a0 := h3.bg.c0; have a1 := u3.was (b := w.heap.size) (o := 0) (v := .int .i64 i) (memLater h2 (memLater ((Below.refl _ _).drew) g0)) qs; have a2 := u3.was (b := w.heap.size) (o := 1) (v := .int .i64 j) (memLater h2 (memLater ((Below.refl _ _).drew) g1)) qs))
   exact qt48
theorem mKeepI_grow (b r d : Nat) (tv : Value) (dg : ByteArray) (key : Int) (ao : Option Addr) (n cap : Nat) (xs : List Value) (w : World) (hb : BdAt w b r d tv dg) (htv : tv = .slice ao n cap) (hnone : ao = none → n = 0 ∧ cap = 0) (hsome : ∀ a, ao = some a → ∃ g, a = ⟨g, 0, none⟩)
  (ho : w.ownsRow 0 5 1 tv n xs) (hc : cap < n + 1) (hn : n ≤ 17592186044416) (hn0 : 0 < n) :
  Calls Tryz.prog 47 #[.pointer (some ⟨b, 1, none⟩), .int .u8 key, .int .i64 1] w fun e w' => e = .returned (.tuple #[]) ∧ ∃ tv', BdAt w' b r d tv' dg ∧ w'.ownsRow (w.heap.size + 1) 5 1 tv' (n + 1) (xs ++ [.int .u8 key]) ∧ Upd [b] w w' := by
 have HB := hb
 obtain ⟨b0, b1, b2, b3, b4, b5, bz, bl⟩ := hb
 subst htv
 obtain ⟨i0, hi, hz0, hz1, hz2⟩ := info_parts infoU8
 have HL : Hid (xs.length = n * 1) := ho.1
 have HO : Hid (∀ o : Obj, ∀ a, ao = some a → ∀ j u, xs[j]? = some u → (w.alloc o).cell? (a.add j) = some u) := by
  intro o a ha j u hu
  obtain ⟨g, rfl⟩ := hsome a ha
  subst ha
  exact (ho.alloc o).cells (g := g) rfl j u hu
 have HN : Hid (∀ j u, [Value.int .u8 key][j]? = some u → (w.alloc (.cells #[.int .u8 key] 5)).cell? ((⟨w.heap.size, 0, none⟩ : Addr).add j) = some u) := by
  intro j u hj
  match j, hj with
  | 0, hj => simp at hj; subst hj; simp [Addr.add]
 clear ho hsome
 have hn1 : (0 : Int) < ((n : Nat) : Int) := by omega
 exact qt29
theorem mKeepI_room (b r d g : Nat) (dg : ByteArray) (key : Int) (n cap : Nat) (xs : List Value) (w : World) (hb : BdAt w b r d (.slice (some ⟨g, 0, none⟩) n cap) dg) (hgb : g ≠ b)
  (ho : w.ownsRow 0 5 1 (.slice (some ⟨g, 0, none⟩) n cap) n xs) (hc : n + 1 ≤ cap) (hn : n ≤ 17592186044416) (hn0 : 0 < n) :
  Calls Tryz.prog 47 #[.pointer (some ⟨b, 1, none⟩), .int .u8 key, .int .i64 1] w fun e w' => e = .returned (.tuple #[]) ∧ BdAt w' b r d (.slice (some ⟨g, 0, none⟩) (n + 1) cap) dg ∧ w'.ownsRow 0 5 1 (.slice (some ⟨g, 0, none⟩) (n + 1) cap) (n + 1) (xs ++ [.int .u8 key]) ∧ Upd [b, g] w w' := by
 have HB := hb
 obtain ⟨b0, b1, b2, b3, b4, b5, bz, bl⟩ := hb
 obtain ⟨i0, hi, hz0, hz1, hz2⟩ := info_parts infoU8
 have HO : Hid (∀ o : Obj, (w.alloc o).ownsRow 0 5 1 (.slice (some ⟨g, 0, none⟩) n cap) n xs) := fun o => ho.alloc o
 have HN : Hid (∀ j u, [Value.int .u8 key][j]? = some u → (w.alloc (.cells #[.int .u8 key] 5)).cell? ((⟨w.heap.size, 0, none⟩ : Addr).add j) = some u) := by
  intro j u hj
  match j, hj with
  | 0, hj => simp at hj; subst hj; simp [Addr.add]
 clear ho
 have hn1 : (0 : Int) < ((n : Nat) : Int) := by omega
 exact qt33
theorem mKeep_ins (b r d : Nat) (tv : Value) (dg : ByteArray) (key : Int) (n : Nat) (xs : List Value) (w : World) (hb : BdAt w b r d tv dg) (hne : tv.ownBlock ≠ some b)
  (ho : w.ownsRow 0 5 1 tv n xs) (hn : n ≤ 17592186044416) (hn0 : 0 < n) :
  Calls Tryz.prog 47 #[.pointer (some ⟨b, 1, none⟩), .int .u8 key, .int .i64 1] w fun e w' => e = .returned (.tuple #[]) ∧ ∃ tv', BdAt w' b r d tv' dg ∧ w'.ownsRow 0 5 1 tv' (n + 1) (xs ++ [.int .u8 key]) ∧ (tv'.ownBlock = tv.ownBlock ∨ ∃ g, tv'.ownBlock = some g ∧ w.heap.size ≤ g) ∧ Upd (b :: own tv) w w' := by
 rcases ho.2 with ⟨rfl, rfl⟩ | ⟨g, cap, cur, rfl, h1, h2, h3, h4⟩
 ·omega
 ·by_cases hc : n + 1 ≤ cap
  ·have hgb : g ≠ b := fun e => hne (by rw [e]; rfl)
   refine Calls.mono (mKeepI_room b r d g dg key n cap xs w hb hgb ho hc hn hn0) ?_
   rintro e w' ⟨rfl, hB, hO, hU⟩
   exact ⟨rfl, _, hB, hO, Or.inl rfl, hU.mono (by simp [own, Value.ownBlock])⟩
  ·refine Calls.mono (mKeepI_grow b r d _ dg key (some ⟨g, 0, none⟩) n cap xs w hb rfl (fun h => by cases h) (fun a h => ⟨g, by simpa using h.symm⟩) ho qo hn hn0) ?_
   rintro e w' ⟨rfl, tv', hB, hO, hU⟩
   obtain ⟨g', cp, rfl, hg⟩ := owned_some hO qo
   exact ⟨rfl, _, hB, ownsRow_base hO (Nat.zero_le _), Or.inr ⟨g', rfl, by omega⟩, hU.mono qi⟩
theorem mKeep_insNo (b r d : Nat) (a : Option Addr) (cap : Nat) (dg : ByteArray) (key : Int) (w : World) (hb : BdAt w b r d (.slice a 0 cap) dg) :
  qC 47 #[.pointer (some ⟨b, 1, none⟩), .int .u8 key, .int .i64 1] w (.tuple #[]) := by
 obtain ⟨b0, b1, b2, b3, b4, b5, bz, bl⟩ := hb
 go_enter Tryz.func47, Tryz.ntmps47
 go_wp2
 go_end0
 exact ⟨rfl, Below.refl _ _⟩
theorem mEnd_no (b r d : Nat) (a : Option Addr) (cap : Nat) (dg : ByteArray) (O : Int) (w : World) (hb : BdAt w b r d (.slice a 0 cap) dg) :
  Calls Tryz.prog 48 #[.pointer (some ⟨b, 1, none⟩), .int .i64 O] w fun e w' => e = .returned (.tuple #[]) ∧ BdAt w' b r d (.slice none 0 0) dg ∧ Upd [b] w w' := by
 by_cases hO : O = 2
 ·have HS := hb.set_tv (.slice none 0 0)
  obtain ⟨b0, b1, b2, b3, b4, b5, bz, bl⟩ := hb
  subst hO
  go_enter Tryz.func48, Tryz.ntmps48
  go_wp2
  go_end0
  refine ⟨rfl, HS, ?_⟩
  repeat exact qU
 ·exact mEnd b r d _ dg O w hb hO
end Go.Proofs.YtlendfhehhacpaaGreat
