/- A part. -/
import Derived.Test.YtlendfhehhacpaaGreatT25
set_option linter.unusedVariables false
set_option linter.unusedSimpArgs false
set_option maxRecDepth 100000
set_option maxHeartbeats 8000000
namespace Go.Proofs.YtlendfhehhacpaaGreat
open Go.RowKit Nib Tryz
theorem sStepAhead_any (s : ByteArray) (r : Nat) (g : Bool) (w : World) (hs : s.size ≤ 1000) (hr : r ≤ s.size) :
  qC 251 #[.string s, .int .i64 r, .bool g] w (.int .i64 (bstep s g r)) := by
 by_cases he : r = 0
 ·subst he
  have e : bstep s g 0 = 0 := by unfold bstep; rw [if_pos rfl]
  rw [e]
  clear e
  go_enter func251, ntmps251
  go_wp2
  all_goals
   first
    | (exact qV (.int .i64 0) (by simp [results, results251, go_sem]) rfl)
 ·have HI : qH 283 #[.string s, .int .i64 ((r : Int) - 1)] (.int .i64 (bto s r : Nat)) := by
   intro ww
   have := sInkAhead_any s (r - 1) ww hs qo
   rw [show ((r - 1 : Nat) : Int) = (r : Int) - 1 by omega] at this
   exact this
  have hb := bto_le s r
  have hne : ((r : Int) == 0) = false := by simp; omega
  rw [bstep_run qo hr]
  by_cases h10 : bt s (bto s r) = 10
  ·rw [if_pos h10]
   generalize bto s r = B at *
   have HR : qH 256 #[.string s, .int .i64 B, .bool g] (.agg #[.int .i64 (B), .int .i64 (B)]) := fun ww => tRun_none s B B g ww hs rfl qo (fun _ => h10)
   clear h10
   have hx := ix0 B B
   go_enter func251, ntmps251
   go_wp2_with fail
   refine (HI.out _).mono ?_
   rintro e w1 ⟨rfl, h1⟩
   obtain ⟨hc1, hf1, hz1⟩ := qb h1
   try simp at hz1
   go_wp2_with fail
   refine (HR.out _).mono ?_
   rintro e w2 ⟨rfl, h2⟩
   obtain ⟨hc2, hf2, hz2⟩ := qb h2
   try simp at hz2
   go_wp2
   all_goals
    first
     | (exact qV (.int .i64 B) (by simp [results, results251, go_sem]) rfl)
  ·rw [if_neg h10]
   generalize bto s r = B at *
   have HR : qH 256 #[.string s, .int .i64 B, .bool g] (.agg #[.int .i64 (runB s B g), .int .i64 (wrun s B g)]) := fun ww => tRun_any s B B g ww hs rfl qo h10
   clear h10
   have hx := ix0 (runB s B g) (wrun s B g)
   generalize runB s B g = C at *
   generalize wrun s B g = D at *
   go_enter func251, ntmps251
   go_wp2_with fail
   refine (HI.out _).mono ?_
   rintro e w1 ⟨rfl, h1⟩
   obtain ⟨hc1, hf1, hz1⟩ := qb h1
   try simp at hz1
   go_wp2_with fail
   refine (HR.out _).mono ?_
   rintro e w2 ⟨rfl, h2⟩
   obtain ⟨hc2, hf2, hz2⟩ := qb h2
   try simp at hz2
   go_wp2
   all_goals
    first
     | (exact qV (.int .i64 C) (by simp [results, results251, go_sem]) rfl)
theorem sToAhead_any (s : ByteArray) (p n : Nat) (v c g : Bool) (w : World) (hs : s.size ≤ 1000) (hp : p ≤ s.size) (hn : n ≤ 99) :
  qC 209 #[.agg #[.string s, .int .i64 (p), .int .i64 (n), .bool v, .bool c], .bool g] w (.tuple #[.agg #[.int .i64 (wayX (wayB s p (max n 1) g)), .int .i64 (wayK (wayB s p (max n 1) g))], .bool (wayZ (wayB s p (max n 1) g))]) := by
 have HP : Hid (∀ (q : Nat), q ≤ s.size → ∀ ww, qC 251 #[.string s, .int .i64 q, .bool g] ww (.int .i64 (bstep s g q))) := fun q hq ww => sStepAhead_any s q g ww hs hq
 have HN : qH 241 #[.agg #[.string s, .int .i64 (p), .int .i64 (n), .bool v, .bool c]] (.int .i64 ((max n 1 : Nat) : Int)) := by
  exact qt45
 have hN1 : 1 ≤ max n 1 := by omega
 have hN2 : max n 1 ≤ 99 := by omega
 generalize max n 1 = N at *
 have HU : qH 240 #[.agg #[.string s, .int .i64 (p), .int .i64 (n), .bool v, .bool c], .int .i64 (itr (bstep s g) N p : Nat), .int .i64 0] (.tuple #[.agg #[.int .i64 (wayX (wayB s p N g)), .int .i64 (wayK (wayB s p N g))], .bool (wayZ (wayB s p N g))]) := by
  intro ww
  refine sUnless_way s p n _ 0 v c ww ?_
  exact ⟨wayB_eq s p N g hN1, fun _ => ⟨rfl, rfl⟩⟩
 generalize wayB s p N g = R at *
 go_enter func209, ntmps209
 have F : Five ((w.alloc (.cells #[.string s, .int .i64 (p), .int .i64 (n), .bool v, .bool c] 206)).alloc (.cells #[.int .i64 0, .int .i64 0] 202)) w.heap.size s p n v c := Five.alloc (Five.new _ _ _ _ _ _ _) _
 have RB : Two ((w.alloc (.cells #[.string s, .int .i64 (p), .int .i64 (n), .bool v, .bool c] 206)).alloc (.cells #[.int .i64 0, .int .i64 0] 202)) (w.heap.size + 1) 0 0 := qN
 go_wp2_with fail
 refine (HN.out _).mono ?_
 rintro r1 w1 ⟨rfl, h1⟩
 obtain ⟨hc1, hf1, hz1⟩ := qb h1
 (try simp at hz1)
 have F1 : Five w1 (w.heap.size) s p n v c := qF
 have ⟨F1_0, F1_1, F1_2, F1_3, F1_4, F1_z, F1_l⟩ := F1
 have RB1 : Two w1 (w.heap.size + 1) (0) (0) := qTw
 have ⟨RB1_0, RB1_1, RB1_z, RB1_l⟩ := RB1
 go_wp2
 go_loopw [6, 11] (fun q i wr => ∃ k : Nat, k ≤ N ∧ q = .int .i64 (itr (bstep s g) k p : Nat) ∧ i = .int .i64 k ∧ Five wr w.heap.size s p n v c ∧ Two wr (w.heap.size + 1) 0 0 ∧ Below w.heap.size w wr) (fun _ i _ => N - (intOf i).toNat)
 case atStart =>
  refine ⟨0, by omega, rfl, rfl, F1, RB1, ?_⟩
  repeat exact qB
 case round =>
  clear F RB h1 hc1 hf1 F1_0 F1_1 F1_2 F1_3 F1_4 F1_z F1_l RB1_0 RB1_1 RB1_z RB1_l
  obtain ⟨k, hk, rfl, rfl, F, RB, hB⟩ := hrel
  have hq : itr (bstep s g) k p ≤ s.size := Nat.le_trans (itr_b_le k) hp
  have ⟨f0, f1, f2, f3, f4, fz, fl⟩ := F
  have r0 := (RB).c0
  have r1 := (RB).c1
  have rz := (RB).fz
  have rl := (RB).lt
  have hzz := hB.size
  by_cases hlt : k < N
  ·have HS : qH 251 #[.string s, .int .i64 (itr (bstep s g) k p : Nat), .bool g] (.int .i64 (itr (bstep s g) (k + 1) p : Nat)) := fun ww => HP.out _ hq ww
   generalize hA : itr (bstep s g) (k + 1) p = A at *
   exact qt34
  ·have ek : k = N := by omega
   subst ek
   generalize itr (bstep s g) k p = A at *
   go_wp2_with fail
   refine (HU.out _).mono ?_
   rintro r2 w2 ⟨rfl, h2⟩
   obtain ⟨hc2, hf2, hz2⟩ := qb h2
   (try simp at hz2)
   have RB2 : Two w2 (w.heap.size + 1) (0) (0) := qTw
   have ⟨RB2_0, RB2_1, RB2_z, RB2_l⟩ := RB2
   go_wp2
   all_goals
    first
     | (exact qV (.tuple #[.agg #[.int .i64 (wayX (R)), .int .i64 (wayK (R))], .bool (wayZ (R))]) (by simp [results, results209, go_sem, RB2_0, RB2_1, RB2_z, RB2_l]) rfl)
theorem sKept_same (s : ByteArray) (p q C D : Nat) (w : World)
  (G1 : qH 195 #[.string s, .int .i64 p] (.agg #[.int .i64 (C), .int .i64 (D)]))
  (G2 : qH 195 #[.string s, .int .i64 q] (.agg #[.int .i64 (C), .int .i64 (D)])) :
  qC 250 #[.string s, .int .i64 p, .int .i64 q] w (.int .i64 q) := by
 have HQ : ∀ ww, (binOp .neq 128 (.agg #[.int .i64 (C), .int .i64 (D)]) (.agg #[.int .i64 (C), .int .i64 (D)])).run Tryz.prog ww = .ok (.bool false) ww := by intro ww; rw [neq_two]; simp
 go_enter func250, ntmps250
 go_wp2_with fail
 refine (G1.out _).mono ?_
 rintro e w1 ⟨rfl, h1⟩
 obtain ⟨hc1, hf1, hz1⟩ := qb h1
 try simp at hz1
 go_wp2_with fail
 refine wp_region_held_drew (S := fun ww => ww.cell? ⟨w1.heap.size, 0, none⟩ = some (.int .i64 C) ∧ ww.cell? ⟨w1.heap.size, 1, none⟩ = some (.int .i64 D)) qk ?_ (fun hHeld => ?_)
 ·refine ⟨?_, ?_⟩ <;> go_simp
 refine qT 0 ?_
 try simp only [Act.put, qP]
 refine qT 1 ?_
 try simp only [Act.put, qP]
 refine qT 3 ?_
 try simp only [Act.put, qP]
 refine qR 2 fun K hK => ?_
 rw [if_pos (by rfl)]
 go_wp2_with fail
 refine (G2.out _).mono ?_
 rintro r2 w2 ⟨rfl, h2⟩
 obtain ⟨hc2, hf2, hz2⟩ := qb h2
 (try simp at hz2)
 go_wp2_with fail
 refine hK.out _ _ ?_ (fun hHeld => ?_)
 ·refine ⟨(hc2 _ _ qi).trans hHeld.1, (hc2 _ _ qi).trans hHeld.2⟩
 clear hK K
 try simp only [Act.put, qP]
 refine qT 4 ?_
 try simp only [Act.put, qP]
 refine qT 5 ?_
 try simp only [Act.put, qP]
 refine qS 6 ?_
 try simp only [Act.put, qP]
 refine qS 7 ?_
 try simp only [Act.put, qP]
 refine qS 8 ?_
 try simp only [Act.put, qP]
 refine qS 9 ?_
 try simp only [Act.put, qP]
 refine qT 10 ?_
 try simp only [Act.put, qP]
 refine wpAnyH_done qk ?_ _
 go_wp2
 refine bodyPost_ret (v := .int .i64 q) (by simp [results, results250, go_sem]) rfl ⟨rfl, ?_⟩
 exact qB
theorem sKept_other (s : ByteArray) (p q A B C D : Nat) (w : World) (hx : ¬ (C = A ∧ D = B))
  (G1 : qH 195 #[.string s, .int .i64 p] (.agg #[.int .i64 (A), .int .i64 (B)]))
  (G2 : qH 195 #[.string s, .int .i64 q] (.agg #[.int .i64 (C), .int .i64 (D)])) :
  qC 250 #[.string s, .int .i64 p, .int .i64 q] w (.int .i64 ((if p = B then q else B : Nat) : Int)) := by
 have HQ : ∀ ww, (binOp .neq 128 (.agg #[.int .i64 (C), .int .i64 (D)]) (.agg #[.int .i64 (A), .int .i64 (B)])).run Tryz.prog ww = .ok (.bool true) ww := by
  intro ww; rw [neq_two]; congr 2; simp only [Bool.not_eq_true', Bool.and_eq_false_imp, beq_iff_eq, beq_eq_false_iff_ne]; omega
 clear hx
 by_cases hpB : p = B
 ·rw [if_pos hpB]
  subst hpB
  go_enter func250, ntmps250
  go_wp2_with fail
  refine (G1.out _).mono ?_
  rintro e w1 ⟨rfl, h1⟩
  obtain ⟨hc1, hf1, hz1⟩ := qb h1
  try simp at hz1
  go_wp2_with fail
  go_wp2_with fail
  go_region_held3 (fun ww => ww.cell? ⟨w1.heap.size, 0, none⟩ = some (.int .i64 A) ∧ ww.cell? ⟨w1.heap.size, 1, none⟩ = some (.int .i64 p)) ((refine ⟨?_, ?_⟩ <;> go_simp)) ((go_at_call 195; refine (G2.out _).mono ?_; rintro r2 w2 ⟨rfl, h2⟩; obtain ⟨hc2, hf2, hz2⟩ := qb h2; (try simp at hz2); (try have ⟨hl2_0, hk2_0⟩ := qL w1.heap.size w2.heap.size)))
  go_wp2
  refine bodyPost_ret (v := .int .i64 q) (by simp [results, results250, go_sem]) rfl ⟨rfl, ?_⟩
  exact qB
 ·rw [if_neg hpB]
  have hb : ((p : Int) = B) = False := by simp; omega
  clear hpB
  go_enter func250, ntmps250
  go_wp2_with fail
  refine (G1.out _).mono ?_
  rintro e w1 ⟨rfl, h1⟩
  obtain ⟨hc1, hf1, hz1⟩ := qb h1
  try simp at hz1
  go_wp2_with fail
  go_wp2_with fail
  go_region_held3 (fun ww => ww.cell? ⟨w1.heap.size, 0, none⟩ = some (.int .i64 A) ∧ ww.cell? ⟨w1.heap.size, 1, none⟩ = some (.int .i64 B)) ((refine ⟨?_, ?_⟩ <;> go_simp)) ((go_at_call 195; refine (G2.out _).mono ?_; rintro r2 w2 ⟨rfl, h2⟩; obtain ⟨hc2, hf2, hz2⟩ := qb h2; (try simp at hz2); (try have ⟨hl2_0, hk2_0⟩ := qL w1.heap.size w2.heap.size)))
  go_wp2
  ·refine bodyPost_ret (v := .int .i64 B) (by simp [results, results250, go_sem]) rfl ⟨rfl, ?_⟩
   exact qB
  ·rename_i hh; exact absurd hh (by simp [hb])
theorem sKept_any (s : ByteArray) (p q : Nat) (w : World) (hs : s.size ≤ 1000) (hp : p ≤ s.size) (hq : q ≤ s.size) :
  qC 250 #[.string s, .int .i64 p, .int .i64 q] w (.int .i64 ((if ¬ (beg s q = beg s p ∧ fin s q = fin s p) ∧ fin s p ≠ p then fin s p else q : Nat) : Int)) := by
 have G1 : qH 195 #[.string s, .int .i64 p] (.agg #[.int .i64 (beg s p), .int .i64 (fin s p)]) := fun ww => tLine_any s p p ww hs rfl hp
 have G2 : qH 195 #[.string s, .int .i64 q] (.agg #[.int .i64 (beg s q), .int .i64 (fin s q)]) := fun ww => tLine_any s q q ww hs rfl hq
 by_cases hx : beg s q = beg s p ∧ fin s q = fin s p
 ·rw [if_neg (by simp [hx])]
  rw [hx.1, hx.2] at G2
  exact sKept_same s p q _ _ w G1 G2
 ·have := sKept_other s p q _ _ _ _ w hx G1 G2
  by_cases hb : fin s p = p
  ·rw [if_neg (by simp [hb])]; rw [if_pos hb.symm] at this; exact this
  ·rw [if_pos ⟨hx, hb⟩]; rw [if_neg (fun h => hb h.symm)] at this; exact this
structure DoAt (w W : World) (r d m b k : Nat) (p : Pg) (f : Int → Value) (i j : Int) (l : Bool) (X : ByteArray) : Prop where
 rd : RdAt W r d p
 rg : RgAt W m f
 p0 : W.cell? ⟨b, 0, none⟩ = some (.int .i64 i)
 p1 : W.cell? ⟨b, 1, none⟩ = some (.int .i64 j)
 p2 : W.cell? ⟨b, 2, none⟩ = some (.bool l)
 x0 : W.cell? ⟨k, 0, none⟩ = some (.string X)
 x1 : W.cell? ⟨k, 1, none⟩ = some (.bool l)
 lb : b < W.heap.size
 lk : k < W.heap.size
 up : Below w.heap.size w W
 lw : w.heap.size < k
def rgW (f : Int → Value) (c : Int) (t : ByteArray) (l : Bool) : Int → Value :=
 if c = 0 then rgSet f 34 (.agg #[.string t, .bool l]) else rgSet (rgSet f 34 (.agg #[.string t, .bool l])) c (.agg #[.string t, .bool l])
def tkn (s : ByteArray) (i j : Nat) (l : Bool) : ByteArray := s.extract i j ++ if l then ⟨#[10]⟩ else ⟨#[]⟩
theorem rWrite_any (m : Nat) (c : Int) (t : ByteArray) (l : Bool) (f : Int → Value) (w : World) (h : RgAt w m f) :
  Calls Tryz.prog 177 #[.map (some m), .int .u8 c, .agg #[.string t, .bool l]] w fun e w' => e = .returned (.tuple #[]) ∧ RgAt w' m (rgW f c t l) ∧ Upd [m] w w' := by
 unfold rgW
 by_cases hr : c = 0
 ·rw [if_pos hr, hr]; exact rWrite_none m t l f w h
 ·rw [if_neg hr]; exact rWrite_named m c t l f w h hr
theorem qt25 {P : Prop} (h : P := by
  refine ⟨RdAt.other (RdAt.other ((((RdAt.alloc H _).below h1).alloc _).drew.below h2) qs qs _) qs qs _, RgAt.other (RgAt.other ((((RgAt.alloc hg _).below h1).alloc _).drew.below h2) (by have := hg.lt; simp; omega) _) (by have := hg.lt; simp; omega) _, hHeld.2.2.1, hHeld.2.2.2.1, hHeld.2.2.2.2, ?_, ?_, ?_, ?_, ?_, by omega⟩
  ·first | (simp; done) | (go_simp; done)
  ·first | (simp; done) | (go_simp; done)
  ·simp; omega
  ·simp <;> omega
  ·repeat exact qB
 ) : P := h
theorem qt32 {P : Prop} (h : P := by
  refine ⟨RdAt.alloc (((RdAt.alloc H _).below h1).drew.below h2) _, RgAt.alloc (((RgAt.alloc hg _).below h1).drew.below h2) _, hHeld.2.2.1, hHeld.2.2.2.1, hHeld.2.2.2.2, ?_, ?_, ?_, ?_, ?_, by omega⟩
  ·first | (simp; done) | (go_simp; done)
  ·first | (simp; done) | (go_simp; done)
  ·simp; omega
  ·simp <;> omega
  ·repeat exact qB
 ) : P := h
theorem qt56 {P : Prop} (h : P := by
  intro ww
  have := tNothing_any i j l ww
  rw [show (((i : Int) == j) && !l) = false by
   rw [Bool.and_eq_false_iff]
   by_cases e : i = j
   ·right; cases l
    ·exact absurd ⟨e, rfl⟩ hne
    ·rfl
   ·left; simp; omega] at this
  exact this
 ) : P := h
theorem mDo_write (v : Int) (r d m : Nat) (p : Pg) (i j : Nat) (l : Bool) (t2 : ByteArray) (q : Nat) (f : Int → Value) (w : World) (h : RdAt w r d p) (hg : RgAt w m f) (hm : p.regs = .map (some m)) (hmr : m ≠ r) (hmd : m ≠ d) (hs : p.t.size ≤ 1000) (hs2 : t2.size ≤ 1000) (hij : i ≤ j) (hj : j ≤ p.t.size) (hne : ¬ (i = j ∧ l = false)) (hq : q ≤ t2.size) (hv : v = 100 ∨ v = 121)
  (HD : qH 174 #[.int .u8 v, .string p.t, .agg #[.int .i64 i, .int .i64 j, .bool l], .int .i64 p.pl] (.tuple #[.string t2, .int .i64 q])) :
  Calls Tryz.prog 146 #[.pointer (some ⟨r, 0, none⟩), .int .u8 v, .agg #[.int .i64 i, .int .i64 j, .bool l]] w fun e w' => e = .returned (.int .i64 (if v = 121 then 1 else 2)) ∧ RdAt w' r d { p with t := t2, mode := 0, anchor := 0, pl := clm t2 q } ∧ RgAt w' m (rgW f p.reg (tkn p.t i j l) l) ∧ Upd [d, m] w w' := by
 have HN : qH 172 #[.agg #[.int .i64 i, .int .i64 j, .bool l]] (.bool false) := by
  exact qt56
 have HT : qH 173 #[.string p.t, .agg #[.int .i64 i, .int .i64 j, .bool l]] (.agg #[.string (tkn p.t i j l), .bool l]) := fun ww => mTaken_piece p.t i j l ww hs hij hj
 generalize tkn p.t i j l = X at *
 have HBc : Hid (∀ ww, RdAt ww r d p → Calls Tryz.prog 175 #[.pointer (some ⟨d, 0, none⟩), .string t2] ww fun e w' => e = .returned (.bool true) ∧ RdAt w' r d { p with t := t2 } ∧ Upd [d] ww w') := fun ww hh => mBecome r d p t2 ww hh hs2
 have hml := hg.lt
 have HWr : Hid (∀ ww, RgAt ww m f → Calls Tryz.prog 177 #[.map (some m), .int .u8 p.reg, .agg #[.string X, .bool l]] ww fun e w' => e = .returned (.tuple #[]) ∧ RgAt w' m (rgW f p.reg X l) ∧ Upd [m] ww w') := fun ww hh => rWrite_any m p.reg X l f ww hh
 generalize rgW f p.reg X l = f2 at *
 have HWs : qH 176 #[.int .u8 v] (.bool true) := fun ww => by
  rcases hv with hv | hv <;> subst hv <;> exact vWrites_any _ ww
 have HTN : Hid (∀ ww, RdAt ww r d { p with t := t2 } → Calls Tryz.prog 136 #[.pointer (some ⟨d, 0, none⟩)] ww fun e w' => e = .returned (.tuple #[]) ∧ RdAt w' r d { p with t := t2, mode := 0, anchor := 0 } ∧ Upd [d] ww w') := fun ww hh => mToNormal r d { p with t := t2 } ww hh
 have HMv : Hid (∀ ww, RdAt ww r d { p with t := t2, mode := 0, anchor := 0 } → Calls Tryz.prog 179 #[.pointer (some ⟨d, 0, none⟩), .int .i64 q] ww fun e w' => e = .returned (.tuple #[]) ∧ RdAt w' r d { p with t := t2, mode := 0, anchor := 0, pl := clm t2 q } ∧ Upd [d] ww w') := fun ww hh => mMoveTo r d { p with t := t2, mode := 0, anchor := 0 } q q ww hh hs2 rfl hq
 have v99 : (v == 99) = false := by simp; omega
 have hO : (v = 100 ∧ (if v = 121 then (1 : Int) else 2) = 2) ∨ (v = 121 ∧ (if v = 121 then (1 : Int) else 2) = 1) := by
  rcases hv with hv | hv <;> subst hv <;> simp
 generalize (if v = 121 then (1 : Int) else 2) = O at *
 have v99' : (v != 99) = true := by simp; omega
 generalize hP6 : ({ p with t := t2, mode := 0, anchor := 0, pl := clm t2 q } : Pg) = P6 at *
 generalize hP5 : ({ p with t := t2, mode := 0, anchor := 0 } : Pg) = P5 at *
 generalize hP4 : ({ p with t := t2 } : Pg) = P4 at *
 have q4 : P4.regs = .map (some m) := by rw [← hP4]; exact hm
 have q4r : P4.reg = p.reg := by rw [← hP4]
 clear hP4 hP5 hP6
 have H := h
 obtain ⟨c0, c1, c2, c3, c4, c5, c6, c7, c8, c9, fz, lt⟩ := h.dk
 obtain ⟨b0, b1, b2, b3, b4, b5, bz, bl⟩ := h.bg
 clear c2 c3 c4 c5 c6 c7 c8 c9 b1 b2 b3 b4 b5 h
 have l1 : r < w.heap.size + 1 := by omega
 have l2 : d < w.heap.size + 1 := by omega
 have l3 : ¬ w.heap.size = d := by omega
 have l4 : ¬ w.heap.size = r := by omega
 go_enter func146, ntmps146
 go_wp2_with fail
 refine (HN.out _).mono ?_
 rintro e w1 ⟨rfl, h1⟩
 obtain ⟨hc1, hf1, hz1⟩ := qb h1
 try simp at hz1
 have d0 : w1.cell? ⟨d, 0, none⟩ = some (.string p.t) := by rw [hc1 _ _ qs]; go_simp
 have d1 : w1.cell? ⟨d, 1, none⟩ = some (.int .i64 p.pl) := by rw [hc1 _ _ qs]; go_simp
 have r0 : w1.cell? ⟨r, 0, none⟩ = some (.pointer (some ⟨d, 0, none⟩)) := by rw [hc1 _ _ qs]; go_simp
 have p0 : w1.cell? ⟨w.heap.size, 0, none⟩ = some (.int .i64 i) := by rw [hc1 _ _ qi]; simp
 have p1 : w1.cell? ⟨w.heap.size, 1, none⟩ = some (.int .i64 j) := by rw [hc1 _ _ qi]; simp
 have p2 : w1.cell? ⟨w.heap.size, 2, none⟩ = some (.bool l) := by rw [hc1 _ _ qi]; simp
 have k1 : r < w1.heap.size := by omega
 have k2 : d < w1.heap.size := by omega
 have k3 : w.heap.size < w1.heap.size := by omega
 clear hc1 hf1
 go_wp2_with fail
 go_region_held3 (fun ww => ww.cell? ⟨r, 0, none⟩ = some (.pointer (some ⟨d, 0, none⟩)) ∧ ww.cell? ⟨d, 0, none⟩ = some (.string p.t) ∧ ww.cell? ⟨w.heap.size, 0, none⟩ = some (.int .i64 i) ∧ ww.cell? ⟨w.heap.size, 1, none⟩ = some (.int .i64 j) ∧ ww.cell? ⟨w.heap.size, 2, none⟩ = some (.bool l)) (exact qK) (first | (go_at_call 173; with_reducible refine Calls.mono (HT.out (w1.alloc (.cells #[.string ⟨#[]⟩, .bool false] 99)).drew) ?_; rintro r2 w2 ⟨rfl, h2⟩; obtain ⟨hc2, hf2, hz2⟩ := qb h2; simp at hz2; have hn0 : w2.cell? ⟨w1.heap.size, 0, none⟩ = some (.string ⟨#[]⟩) := (hc2 (w1.heap.size) 0 qi).trans qi; have hn1 : w2.cell? ⟨w1.heap.size, 1, none⟩ = some (.bool false) := (hc2 (w1.heap.size) 1 qi).trans qi; have hq2 : ∀ o, w2.frozen? ⟨w1.heap.size, o, none⟩ = false := (fun o => (hf2 (w1.heap.size) o qi).trans qi); clear hc2 hf2) | (go_at_call 173; with_reducible refine Calls.mono (HT.out w1.drew) ?_; rintro r2 w2 ⟨rfl, h2⟩; have hz2 := h2.size; simp at hz2))
 rename_i hHeld
 have E : DoAt w (w2.alloc (.cells #[.string X, .bool l] 99)) r d m w.heap.size w2.heap.size p f i j l X := by
  exact qt32
 clear hHeld h1 h2 hz2 hg H d0 d1 r0 p0 p1 p2
 generalize (w2.alloc (.cells #[.string X, .bool l] 99)) = W at *
 generalize w2.heap.size = k at *
 rotate_left
 rename_i hHeld
 have E : DoAt w ((w2.setCell ⟨w1.heap.size, 0, none⟩ (.string X)).setCell ⟨w1.heap.size, 1, none⟩ (.bool l)) r d m w.heap.size w1.heap.size p f i j l X := by
  exact qt25
 clear hHeld h1 h2 hz2 hg H d0 d1 r0 p0 p1 p2
 generalize ((w2.setCell ⟨w1.heap.size, 0, none⟩ (.string X)).setCell ⟨w1.heap.size, 1, none⟩ (.bool l)) = W at *
 generalize w1.heap.size = k at *
 rotate_left
 all_goals
  obtain ⟨rd, rg, p0, p1, p2, x0, x1, lb, lk, up, lw⟩ := E
  have H := rd
  have r0 := rd.bg.c0
  have d0 := rd.dk.c0
  have d1 := rd.dk.c1
  have hlr := rd.bg.lt
  have hld := rd.dk.lt
  go_wp2_with fail
  go_region_held3 (fun ww => ww.cell? ⟨r, 0, none⟩ = some (.pointer (some ⟨d, 0, none⟩)) ∧ ww.cell? ⟨d, 0, none⟩ = some (.string p.t) ∧ ww.cell? ⟨d, 1, none⟩ = some (.int .i64 p.pl) ∧ ww.cell? ⟨w.heap.size, 0, none⟩ = some (.int .i64 i) ∧ ww.cell? ⟨w.heap.size, 1, none⟩ = some (.int .i64 j) ∧ ww.cell? ⟨w.heap.size, 2, none⟩ = some (.bool l)) (exact qK) ((go_at_call 174; refine Calls.mono (HD.out _) ?_; rintro r3 w3 ⟨rfl, h3⟩; have hz3 := h3.size; (try simp at hz3); (try have ⟨hl3_0, hk3_0⟩ := qL d w3.heap.size); (try have ⟨hl3_1, hk3_1⟩ := qL r w3.heap.size); (try have ⟨hl3_2, hk3_2⟩ := qL w.heap.size w3.heap.size)))
  have H3 := (rd.drew).below h3
  have G3 := (rg.drew).below h3
  have y0 := memLater h3 (memLater ((Below.refl _ _).drew) x0)
  have y1 := memLater h3 (memLater ((Below.refl _ _).drew) x1)
  have up3 : Below w.heap.size w w3 := by
   repeat exact qB
  clear rd rg x0 x1 up h3 H r0 d0 d1
  go_wp2_with fail
  refine Calls.mono (HBc.out _ H3) ?_
  rintro e4 w4 ⟨rfl, H4, u4⟩
  have G4 : RgAt w4 m f := G3.of_block (u4.block m G3.lt (by simp; exact hmd))
  have z0 := u4.was y0 qs
  have z1 := u4.was y1 qs
  go_wp2_with fail
  refine Calls.mono (HWs.out _) ?_
  rintro e5 w5 ⟨rfl, h5⟩
  have H5 := H4.below h5
  have G5 := G4.below h5
  have x0 := memLater h5 z0
  have x1 := memLater h5 z1
  have r0 := H5.bg.c0
  have r1 := H5.bg.c1
  have d4 := H5.dk.c4
  rw [q4] at d4
  rw [q4r] at r1
  go_wp2_with fail
  go_region_held3 (fun ww => ww.cell? ⟨r, 0, none⟩ = some (.pointer (some ⟨d, 0, none⟩)) ∧ ww.cell? ⟨r, 1, none⟩ = some (.int .u8 p.reg) ∧ ww.cell? ⟨d, 4, none⟩ = some (.map (some m)) ∧ ww.cell? ⟨k, 0, none⟩ = some (.string X) ∧ ww.cell? ⟨k, 1, none⟩ = some (.bool l)) (exact qK) ((go_at_call 177; with_reducible refine Calls.mono (HWr.out _ (RgAt.drew G5)) ?_; rintro e6 w6 ⟨rfl, G6, u6⟩; have a0 := u6.was (memLater ((Below.refl _ _).drew) r0) (by simp; exact Ne.symm hmr); have a1 := u6.was (memLater ((Below.refl _ _).drew) r1) (by simp; exact Ne.symm hmr); have a2 := u6.was (memLater ((Below.refl _ _).drew) d4) (by simp; exact Ne.symm hmd); have a3 := u6.was (memLater ((Below.refl _ _).drew) x0) qs; have a4 := u6.was (memLater ((Below.refl _ _).drew) x1) qs))
  have H6 : RdAt w6 r d P4 := (H5.drew).upd u6 (by simp; exact Ne.symm hmr) (by simp; exact Ne.symm hmd)
  have U6 : Upd [d, m] w w6 := by
   refine Upd.trans (Upd.drew (Upd.below (Upd.trans (Upd.of_below up3) (Upd.mono u4 qi)) h5)) (Upd.mono u6 qi)
  clear G5 r0 r1 d4 x0 x1 z0 z1 y0 y1 G4 G3 H3 H4 H5 u4 h5 u6 up3
  go_wp2_with fail
  refine Calls.mono (HTN.out _ H6) ?_
  rintro e7 w7 ⟨rfl, H7, u7⟩
  have G7 : RgAt w7 m f2 := G6.of_block (u7.block m G6.lt (by simp; exact hmd))
  have r7 := H7.bg.c0
  go_wp2_with fail
  refine Calls.mono (HMv.out _ H7) ?_
  rintro e8 w8 ⟨rfl, H8, u8⟩
  have G8 : RgAt w8 m f2 := G7.of_block (u8.block m G7.lt (by simp; exact hmd))
  have U8 : Upd [d, m] w w8 := (U6.trans (u7.mono qi)).trans (u8.mono qi)
  clear u7 u8 U6 H7 H6 G7 G6
  rcases hO with ⟨hO, hO'⟩ | ⟨hO, hO'⟩
  ·subst hO hO'
   go_wp2
   go_ret
   exact ⟨rfl, H8, G8, U8⟩
  ·subst hO hO'
   go_wp2
   go_ret
   exact ⟨rfl, H8, G8, U8⟩
