/- A part. -/
import Derived.Test.YtlendfhehhacpaaGreatP17
import Derived.Test.YtlendfhehhacpaaGreatP18
import Derived.Laws.BytesArg
set_option linter.unusedVariables false
set_option linter.unusedSimpArgs false
set_option maxRecDepth 100000
set_option maxHeartbeats 8000000
namespace Go.Proofs.YtlendfhehhacpaaGreat
open Go.RowKit
theorem sStepAhead_any (s : ByteArray) (r : Nat) (g : Bool) (w : World) (hs : s.size ≤ 1000) (hr : r ≤ s.size) :
  qC 251 #[.string s, .int .i64 r, .bool g] w (.int .i64 (Nib.bstep s g r)) := by
 by_cases he : r = 0
 ·subst he
  have e : Nib.bstep s g 0 = 0 := by unfold Nib.bstep; rw [if_pos rfl]
  rw [e]
  clear e
  go_enter Tryz.func251, Tryz.ntmps251
  go_wp2
  all_goals
   first
    | (exact qV (.int .i64 0) (by simp [results, Tryz.results251, go_sem]) rfl)
 ·have HI : qH 283 #[.string s, .int .i64 ((r : Int) - 1)] (.int .i64 (Nib.bto s r : Nat)) := by
   intro ww
   have := sInkAhead_any s (r - 1) ww hs qo
   rw [show ((r - 1 : Nat) : Int) = (r : Int) - 1 by omega] at this
   exact this
  have hb := Nib.bto_le s r
  have hne : ((r : Int) == 0) = false := by simp; omega
  rw [Nib.bstep_run qo hr]
  by_cases h10 : Nib.bt s (Nib.bto s r) = 10
  ·rw [if_pos h10]
   generalize Nib.bto s r = B at *
   have HR : qH 256 #[.string s, .int .i64 B, .bool g] (.agg #[.int .i64 (B), .int .i64 (B)]) := fun ww => tRun_none s B B g ww hs rfl qo (fun _ => h10)
   clear h10
   have hx := ix0 B B
   go_enter Tryz.func251, Tryz.ntmps251
   go_wp2_with fail
   refine (HI.out _).mono ?_
   rintro e w1 ⟨rfl, h1⟩
   obtain ⟨hc1, hf1, hz1⟩ := qb h1
   try simp at hz1
   go_wp2_with fail
   refine (HR.out _).mono ?_
   rintro e w2 ⟨rfl, h2⟩
   obtain ⟨hc2, hf2, hz2⟩ := qb h2
   try simp at hz2
   go_wp2
   all_goals
    first
     | (exact qV (.int .i64 B) (by simp [results, Tryz.results251, go_sem]) rfl)
  ·rw [if_neg h10]
   generalize Nib.bto s r = B at *
   have HR : qH 256 #[.string s, .int .i64 B, .bool g] (.agg #[.int .i64 (Nib.runB s B g), .int .i64 (Nib.wrun s B g)]) := fun ww => tRun_any s B B g ww hs rfl qo h10
   clear h10
   have hx := ix0 (Nib.runB s B g) (Nib.wrun s B g)
   generalize Nib.runB s B g = C at *
   generalize Nib.wrun s B g = D at *
   go_enter Tryz.func251, Tryz.ntmps251
   go_wp2_with fail
   refine (HI.out _).mono ?_
   rintro e w1 ⟨rfl, h1⟩
   obtain ⟨hc1, hf1, hz1⟩ := qb h1
   try simp at hz1
   go_wp2_with fail
   refine (HR.out _).mono ?_
   rintro e w2 ⟨rfl, h2⟩
   obtain ⟨hc2, hf2, hz2⟩ := qb h2
   try simp at hz2
   go_wp2
   all_goals
    first
     | (exact qV (.int .i64 C) (by simp [results, Tryz.results251, go_sem]) rfl)
theorem sToAhead_any (s : ByteArray) (p n : Nat) (v c g : Bool) (w : World) (hs : s.size ≤ 1000) (hp : p ≤ s.size) (hn : n ≤ 99) :
  qC 209 #[.agg #[.string s, .int .i64 (p), .int .i64 (n), .bool v, .bool c], .bool g] w (.tuple #[.agg #[.int .i64 (wayX (Nib.wayB s p (max n 1) g)), .int .i64 (wayK (Nib.wayB s p (max n 1) g))], .bool (wayZ (Nib.wayB s p (max n 1) g))]) := by
 have HP : Hid (∀ (q : Nat), q ≤ s.size → ∀ ww, qC 251 #[.string s, .int .i64 q, .bool g] ww (.int .i64 (Nib.bstep s g q))) := fun q hq ww => sStepAhead_any s q g ww hs hq
 have HN : qH 241 #[.agg #[.string s, .int .i64 (p), .int .i64 (n), .bool v, .bool c]] (.int .i64 ((max n 1 : Nat) : Int)) := by
  exact qt45
 have hN1 : 1 ≤ max n 1 := by omega
 have hN2 : max n 1 ≤ 99 := by omega
 generalize max n 1 = N at *
 have HU : qH 240 #[.agg #[.string s, .int .i64 (p), .int .i64 (n), .bool v, .bool c], .int .i64 (Nib.itr (Nib.bstep s g) N p : Nat), .int .i64 0] (.tuple #[.agg #[.int .i64 (wayX (Nib.wayB s p N g)), .int .i64 (wayK (Nib.wayB s p N g))], .bool (wayZ (Nib.wayB s p N g))]) := by
  intro ww
  refine sUnless_way s p n _ 0 v c ww ?_
  exact ⟨Nib.wayB_eq s p N g hN1, fun _ => ⟨rfl, rfl⟩⟩
 generalize Nib.wayB s p N g = R at *
 go_enter Tryz.func209, Tryz.ntmps209
 have F : Five ((w.alloc (.cells #[.string s, .int .i64 (p), .int .i64 (n), .bool v, .bool c] 206)).alloc (.cells #[.int .i64 0, .int .i64 0] 202)) w.heap.size s p n v c := Five.alloc (Five.new _ _ _ _ _ _ _) _
 have RB : Two ((w.alloc (.cells #[.string s, .int .i64 (p), .int .i64 (n), .bool v, .bool c] 206)).alloc (.cells #[.int .i64 0, .int .i64 0] 202)) (w.heap.size + 1) 0 0 := qN
 go_wp2_with fail
 refine (HN.out _).mono ?_
 rintro r1 w1 ⟨rfl, h1⟩
 obtain ⟨hc1, hf1, hz1⟩ := qb h1
 (try simp at hz1)
 have F1 : Five w1 (w.heap.size) s p n v c := qF
 have ⟨F1_0, F1_1, F1_2, F1_3, F1_4, F1_z, F1_l⟩ := F1
 have RB1 : Two w1 (w.heap.size + 1) (0) (0) := qTw
 have ⟨RB1_0, RB1_1, RB1_z, RB1_l⟩ := RB1
 go_wp2
 go_loopw [6, 11] (fun q i wr => ∃ k : Nat, k ≤ N ∧ q = .int .i64 (Nib.itr (Nib.bstep s g) k p : Nat) ∧ i = .int .i64 k ∧ Five wr w.heap.size s p n v c ∧ Two wr (w.heap.size + 1) 0 0 ∧ Below w.heap.size w wr) (fun _ i _ => N - (intOf i).toNat)
 case atStart =>
  refine ⟨0, by omega, rfl, rfl, F1, RB1, ?_⟩
  repeat exact qB
 case round =>
  clear F RB h1 hc1 hf1 F1_0 F1_1 F1_2 F1_3 F1_4 F1_z F1_l RB1_0 RB1_1 RB1_z RB1_l
  obtain ⟨k, hk, rfl, rfl, F, RB, hB⟩ := hrel
  have hq : Nib.itr (Nib.bstep s g) k p ≤ s.size := Nat.le_trans (Nib.itr_b_le k) hp
  have ⟨f0, f1, f2, f3, f4, fz, fl⟩ := F
  have r0 := (RB).c0
  have r1 := (RB).c1
  have rz := (RB).fz
  have rl := (RB).lt
  have hzz := hB.size
  by_cases hlt : k < N
  ·have HS : qH 251 #[.string s, .int .i64 (Nib.itr (Nib.bstep s g) k p : Nat), .bool g] (.int .i64 (Nib.itr (Nib.bstep s g) (k + 1) p : Nat)) := fun ww => HP.out _ hq ww
   generalize hA : Nib.itr (Nib.bstep s g) (k + 1) p = A at *
   exact qt34
  ·have ek : k = N := by omega
   subst ek
   generalize Nib.itr (Nib.bstep s g) k p = A at *
   go_wp2_with fail
   refine (HU.out _).mono ?_
   rintro r2 w2 ⟨rfl, h2⟩
   obtain ⟨hc2, hf2, hz2⟩ := qb h2
   (try simp at hz2)
   have RB2 : Two w2 (w.heap.size + 1) (0) (0) := qTw
   have ⟨RB2_0, RB2_1, RB2_z, RB2_l⟩ := RB2
   go_wp2
   all_goals
    first
     | (exact qV (.tuple #[.agg #[.int .i64 (wayX (R)), .int .i64 (wayK (R))], .bool (wayZ (R))]) (by simp [results, Tryz.results209, go_sem, RB2_0, RB2_1, RB2_z, RB2_l]) rfl)
structure RgAt (w : World) (m : Nat) (f : Int → Value) : Prop where
 out : ∃ (es : Array MapEntry) (k : Nat), w.heap[m]? = some (.map es k) ∧ RgOk es.toList ∧ ∀ d, rgVal (rgFind es.toList d 0) = f d
def rgSet (f : Int → Value) (c : Int) (v : Value) : Int → Value := fun d => if d = c then v else f d
theorem RgAt.lt {w : World} {m : Nat} {f : Int → Value} (h : RgAt w m f) : m < w.heap.size := by
 obtain ⟨es, k, h1, _⟩ := h.out
 exact (Array.getElem?_eq_some_iff.1 h1).1
theorem RgAt.update {w : World} {m : Nat} {f : Int → Value} (h : RgAt w m f) (c : Int) (t : ByteArray) (l : Bool) :
  ∃ w' : World, (Instr.mapUpdate 90 (.map (some m)) (.int .u8 c) (.agg #[.string t, .bool l])).run Tryz.prog w = .ok () w' ∧ RgAt w' m (rgSet f c (.agg #[.string t, .bool l])) ∧ Upd [m] w w' := by
 obtain ⟨es, k, h1, h2, h3⟩ := h.out
 obtain ⟨es', k', g1, g2, g3⟩ := rg_update m k c t l es w h1 h2
 have hl := h.lt
 refine ⟨_, g1, ⟨es', k', by simp [hl], g2, ?_⟩, ?_⟩
 ·intro d
  rw [g3 d]
  unfold rgSet
  split
  ·rfl
  ·exact h3 d
 ·refine ⟨rfl, rfl, rfl, by simp, fun i hi hn => ?_⟩
  have : m ≠ i := by intro e; subst e; exact hn qi
  exact Array.getElem?_setIfInBounds_ne this
theorem RgAt.of_block {w w' : World} {m : Nat} {f : Int → Value} (h : RgAt w m f) (hb : w'.heap[m]? = w.heap[m]?) : RgAt w' m f := by
 obtain ⟨es, k, h1, h2⟩ := h.out
 exact ⟨es, k, hb.trans h1, h2⟩
theorem RgAt.below {w w' : World} {m : Nat} {f : Int → Value} (h : RgAt w m f) (hb : Below w.heap.size w w') : RgAt w' m f := h.of_block (hb.block m h.lt)
theorem RgAt.alloc {w : World} {m : Nat} {f : Int → Value} (h : RgAt w m f) (o : Obj) : RgAt (w.alloc o) m f := h.below ((Below.refl _ _).alloc (Nat.le_refl _) _)
theorem RgAt.drew {w : World} {m : Nat} {f : Int → Value} (h : RgAt w m f) : RgAt w.drew m f := h.below (Below.refl _ _).drew
theorem RgAt.drewN {w : World} {m : Nat} {f : Int → Value} (h : RgAt w m f) (n : Nat) : RgAt (w.drewN n) m f := h.below (below_drewN (Below.refl _ _) _)
theorem RgAt.other {w : World} {m : Nat} {f : Int → Value} (h : RgAt w m f) {q : Addr} (hp : m ≠ q.block) (u : Value) : RgAt (w.setCell q u) m f := h.of_block (Below.heap_setCell _ _ _ _ hp)
theorem rWrite_none (m : Nat) (t : ByteArray) (l : Bool) (f : Int → Value) (w : World) (h : RgAt w m f) :
  Calls Tryz.prog 177 #[.map (some m), .int .u8 0, .agg #[.string t, .bool l]] w fun e w' => e = .returned (.tuple #[]) ∧ RgAt w' m (rgSet f 34 (.agg #[.string t, .bool l])) ∧ Upd [m] w w' := by
 obtain ⟨w1, g1, g2, g3⟩ := (h.alloc (.cells #[.string t, .bool l] 99)).update 34 t l
 clear h
 go_enter Tryz.func177, Tryz.ntmps177
 go_wp2
 go_end0
 exact ⟨rfl, g2, (Upd.alloc (Upd.refl _ _) _).trans g3⟩
theorem rWrite_named (m : Nat) (c : Int) (t : ByteArray) (l : Bool) (f : Int → Value) (w : World) (h : RgAt w m f) (hc : c ≠ 0) :
  Calls Tryz.prog 177 #[.map (some m), .int .u8 c, .agg #[.string t, .bool l]] w fun e w' => e = .returned (.tuple #[]) ∧ RgAt w' m (rgSet (rgSet f 34 (.agg #[.string t, .bool l])) c (.agg #[.string t, .bool l])) ∧ Upd [m] w w' := by
 obtain ⟨w1, g1, g2, g3⟩ := (h.alloc (.cells #[.string t, .bool l] 99)).update 34 t l
 obtain ⟨w2, k1, k2, k3⟩ := g2.update c t l
 have hl := h.lt
 have hb := g3.block w.heap.size qi qs
 have c0 : w1.cell? ⟨w.heap.size, 0, none⟩ = some (.string t) := (World.cell?_of_block (w := w.alloc (.cells #[.string t, .bool l] 99)) hb).trans qi
 have c1 : w1.cell? ⟨w.heap.size, 1, none⟩ = some (.bool l) := (World.cell?_of_block (w := w.alloc (.cells #[.string t, .bool l] 99)) hb).trans qi
 clear h hb
 go_enter Tryz.func177, Tryz.ntmps177
 go_wp2
 go_end0
 exact ⟨rfl, k2, ((Upd.alloc (Upd.refl _ _) _).trans g3).trans k3⟩
theorem mInsertAt (r d : Nat) (p : Pg) (k : Nat) (w : World) (h : RdAt w r d p) :
  Calls Tryz.prog 178 #[.pointer (some ⟨d, 0, none⟩), .int .i64 (k : Nat)] w fun e w' => e = .returned (.int .i64 1) ∧ RdAt w' r d { p with mode := 1, anchor := 0, pl := k } ∧ Upd [d] w w' := by
 have HS := ((h.set_mode 1).set_anchor 0).set_pl k
 have H := h
 obtain ⟨c0, c1, c2, c3, c4, c5, c6, c7, c8, c9, fz, lt⟩ := h.dk
 clear c0 c4 c5 c6 c7 c8 c9 h
 go_enter Tryz.func178, Tryz.ntmps178
 go_wp2
 go_ret
 refine ⟨rfl, HS, ?_⟩
 repeat exact qU
def put (t b : ByteArray) (k : Nat) : ByteArray := t.extract 0 k ++ b ++ t.extract k t.size
theorem mWrite_fits (r d : Nat) (p : Pg) (k : Nat) (b : ByteArray) (w : World) (h : RdAt w r d p) (hs : p.t.size ≤ 1000) (hb : b.size ≤ 1000000) (hk : k ≤ p.t.size) (hf : (put p.t b k).size ≤ 1000) :
  Calls Tryz.prog 188 #[.pointer (some ⟨d, 0, none⟩), .int .i64 (k : Nat), .string b] w fun e w' => e = .returned (.bool true) ∧ RdAt w' r d { p with t := put p.t b k } ∧ Upd [d] w w' := by
 have HW : qH 192 #[.string p.t, .agg #[.int .i64 (((k : Nat) : Int)), .int .i64 (((k : Nat) : Int))], .string b] (.string (put p.t b k)) := fun ww => tWith_any p.t b _ _ k k ww hs hb rfl rfl (Nat.le_refl _) hk
 have HB : Hid (∀ ww, RdAt ww r d p → Calls Tryz.prog 175 #[.pointer (some ⟨d, 0, none⟩), .string (put p.t b k)] ww fun e w' => e = .returned (.bool true) ∧ RdAt w' r d { p with t := put p.t b k } ∧ Upd [d] ww w') := fun ww hh => mBecome r d p (put p.t b k) ww hh hf
 have H := h
 have d0 := h.dk.c0
 have hld := h.dk.lt
 generalize hp2 : ({ p with t := put p.t b k } : Pg) = p2 at *
 generalize put p.t b k = X at *
 clear h hp2
 go_enter Tryz.func188, Tryz.ntmps188
 go_wp2_with fail
 refine Calls.mono (HW.out _) ?_
 rintro e w1 ⟨rfl, h1⟩
 go_wp2_with fail
 refine Calls.mono (HB.out _ qRd) ?_
 rintro e w2 ⟨rfl, h2, u2⟩
 exact qt16
theorem mWrite_long (r d : Nat) (p : Pg) (k : Nat) (b : ByteArray) (w : World) (h : RdAt w r d p) (hs : p.t.size ≤ 1000) (hb : b.size ≤ 1000000) (hk : k ≤ p.t.size) (hf : 1000 < (put p.t b k).size) :
  qC 188 #[.pointer (some ⟨d, 0, none⟩), .int .i64 (k : Nat), .string b] w (.bool false) := by
 have HW : qH 192 #[.string p.t, .agg #[.int .i64 (((k : Nat) : Int)), .int .i64 (((k : Nat) : Int))], .string b] (.string (put p.t b k)) := fun ww => tWith_any p.t b _ _ k k ww hs hb rfl rfl (Nat.le_refl _) hk
 have HB : Hid (∀ ww, Calls Tryz.prog 175 #[.pointer (some ⟨d, 0, none⟩), .string (put p.t b k)] ww fun e w' => e = .returned (.bool false) ∧ w' = ww) := fun ww => mBecome_long r d (put p.t b k) ww hf
 have d0 := h.dk.c0
 have hld := h.dk.lt
 generalize put p.t b k = X at *
 clear h
 go_enter Tryz.func188, Tryz.ntmps188
 go_wp2_with fail
 refine Calls.mono (HW.out _) ?_
 rintro e w1 ⟨rfl, h1⟩
 go_wp2_with fail
 refine Calls.mono (HB.out _) ?_
 rintro e w2 ⟨rfl, rfl⟩
 go_wp2
 go_ret
 refine ⟨rfl, ?_⟩
 repeat exact qB
theorem iPut_fits (r d : Nat) (p : Pg) (b : ByteArray) (w : World) (h : RdAt w r d p) (hs : p.t.size ≤ 1000) (hb : b.size ≤ 1000000) (hk : p.pl ≤ p.t.size) (hf : (put p.t b p.pl).size ≤ 1000) :
  Calls Tryz.prog 306 #[.agg #[.pointer (some ⟨d, 0, none⟩)], .string b] w fun e w' => e = .returned (.tuple #[]) ∧ RdAt w' r d { p with t := put p.t b p.pl, pl := p.pl + b.size } ∧ Upd [d] w w' := by
 have HW : Hid (∀ ww, RdAt ww r d p → Calls Tryz.prog 188 #[.pointer (some ⟨d, 0, none⟩), .int .i64 (p.pl : Nat), .string b] ww fun e w' => e = .returned (.bool true) ∧ RdAt w' r d { p with t := put p.t b p.pl } ∧ Upd [d] ww w') := fun ww hh => mWrite_fits r d p p.pl b ww hh hs hb hk hf
 have HS : Hid (∀ ww, RdAt ww r d { p with t := put p.t b p.pl } → RdAt (ww.setCell ⟨d, 1, none⟩ (.int .i64 ((p.pl : Int) + b.size))) r d { p with t := put p.t b p.pl, pl := p.pl + b.size }) := fun ww hh => by
  have := hh.set_pl (p.pl + b.size)
  rw [show (((p.pl + b.size : Nat) : Int)) = (p.pl : Int) + b.size by omega] at this
  exact this
 have H := h
 have d1 := h.dk.c1
 have hld := h.dk.lt
 have l1 : d < w.heap.size + 1 := by omega
 have hwr : IntKind.i64.wrap (((p.pl : Nat) : Int) + ((b.size : Nat) : Int)) = ((p.pl : Nat) : Int) + ((b.size : Nat) : Int) := by rw [IntKind.wrap_i64]; omega
 have hp2 : ({ p with t := put p.t b p.pl } : Pg).pl = p.pl := rfl
 generalize hP2 : ({ p with t := put p.t b p.pl } : Pg) = p2 at *
 generalize hP3 : ({ p with t := put p.t b p.pl, pl := p.pl + b.size } : Pg) = p3 at *
 clear h hP2 hP3
 go_enter Tryz.func306, Tryz.ntmps306
 have g0 : (w.alloc (.cells #[.pointer (some ⟨d, 0, none⟩)] 80)).cell? ⟨w.heap.size, 0, none⟩ = some (.pointer (some ⟨d, 0, none⟩)) := by simp
 go_wp2_with fail
 go_region_held3 (fun ww => ww.cell? ⟨w.heap.size, 0, none⟩ = some (.pointer (some ⟨d, 0, none⟩)) ∧ ww.cell? ⟨d, 1, none⟩ = some (.int .i64 p.pl)) (exact qK) ((go_at_call 188; refine Calls.mono (HW.out _ qRd) ?_; rintro r3 w3 ⟨rfl, h3, u3⟩; have hz3 := u3.size; (try simp at hz3); have a1 := h3.dk.c1; rw [hp2] at a1; have az := h3.dk.fz; have al := h3.dk.lt; have a0 := u3.was (b := w.heap.size) (o := 0) (v := .pointer (some ⟨d, 0, none⟩)) qM qs))
 go_wp2
 first | go_end0 | refine bodyPost_ret (results_none rfl _ _ _) rfl ?_
 refine ⟨rfl, ?_, ?_⟩
 ·first | exact HS.out _ h3 | exact (HS.out _ h3).drew | exact HS.out _ h3.drew
 ·repeat exact qU
theorem iPut_long (r d : Nat) (p : Pg) (b : ByteArray) (w : World) (h : RdAt w r d p) (hs : p.t.size ≤ 1000) (hb : b.size ≤ 1000000) (hk : p.pl ≤ p.t.size) (hf : 1000 < (put p.t b p.pl).size) :
  qC 306 #[.agg #[.pointer (some ⟨d, 0, none⟩)], .string b] w (.tuple #[]) := by
 have HW : Hid (∀ ww, RdAt ww r d p → qC 188 #[.pointer (some ⟨d, 0, none⟩), .int .i64 (p.pl : Nat), .string b] ww (.bool false)) := fun ww hh => mWrite_long r d p p.pl b ww hh hs hb hk hf
 have H := h
 have d1 := h.dk.c1
 have hld := h.dk.lt
 clear h
 go_enter Tryz.func306, Tryz.ntmps306
 have g0 : (w.alloc (.cells #[.pointer (some ⟨d, 0, none⟩)] 80)).cell? ⟨w.heap.size, 0, none⟩ = some (.pointer (some ⟨d, 0, none⟩)) := by simp
 go_wp2_with fail
 go_region_held3 (fun ww => ww.cell? ⟨w.heap.size, 0, none⟩ = some (.pointer (some ⟨d, 0, none⟩)) ∧ ww.cell? ⟨d, 1, none⟩ = some (.int .i64 p.pl)) (exact qK) ((go_at_call 188; refine Calls.mono (HW.out _ qRd) ?_; rintro r1 w1 ⟨rfl, h1⟩; have hz1 := h1.size; (try simp at hz1); (try have ⟨hl1_0, hk1_0⟩ := qL d w1.heap.size); (try have ⟨hl1_1, hk1_1⟩ := qL w.heap.size w1.heap.size)))
 go_wp2
 first | go_end0 | refine bodyPost_ret (results_none rfl _ _ _) rfl ?_
 refine ⟨rfl, ?_⟩
 repeat exact qB
theorem mEnd_did (b r d g n cap : Nat) (ns : List Int) (dg : ByteArray) (w : World) (hb : BdAt w b r d (.slice (some ⟨g, 0, none⟩) n cap) dg) (ho : w.ownsRow 0 5 1 (.slice (some ⟨g, 0, none⟩) n cap) n (ns.map (Value.int .u8))) (hn0 : 0 < n) (hl : ns.length = n) :
  Calls Tryz.prog 48 #[.pointer (some ⟨b, 1, none⟩), .int .i64 2] w fun e w' => e = .returned (.tuple #[]) ∧ BdAt w' b r d (.slice none 0 0) (strOfNums ns) ∧ Upd [b] w w' := by
 have HS := (hb.set_dg (strOfNums ns)).set_tv (.slice none 0 0)
 have hcv : (convert 48 9 (.slice (some ⟨g, 0, none⟩) n cap)).run Tryz.prog w = .ok (.string (strOfNums ns)) w := by
  refine run_convert_bytes_arg w 48 5 Tryz.underlying48 Tryz.underlying5 g 0 n cap ns hl ?_ 9 Tryz.underlying9
  intro i hi
  have hx := ho.cells (g := g) rfl i (.int .u8 (ns.getD i 0)) (by
   rw [List.getElem?_map]
   rw [List.getElem?_eq_getElem qo]
   simp [List.getD_eq_getElem?_getD, List.getElem?_eq_getElem (show i < ns.length by omega)])
  have ha : (⟨g, 0, none⟩ : Addr).add i = ⟨g, 0 + i, none⟩ := by unfold Addr.add; split <;> simp_all
  rw [ha] at hx
  exact hx
 obtain ⟨b0, b1, b2, b3, b4, b5, bz, bl⟩ := hb
 have hn1 : (0 : Int) < ((n : Nat) : Int) := by omega
 generalize strOfNums ns = X at *
 clear ho
 go_enter Tryz.func48, Tryz.ntmps48
 go_wp2
 go_end0
 refine ⟨rfl, HS, ?_⟩
 repeat exact qU
theorem bType_none (b : Nat) (s : ByteArray) (I : Nat → World → Prop) (w : World) (h : I 0 w) (hs : s.size ≤ 17592186044416)
  (HK : ∀ k, (hk : k < s.size) → ∀ ww, I k ww → Calls Tryz.prog 38 #[.pointer (some ⟨b, 0, none⟩), .int .u8 (s[k]'hk).toNat] ww fun e w' => ∃ O : Int, e = .returned (.int .i64 O) ∧ ¬ O = 4 ∧ I (k + 1) w') :
  Calls Tryz.prog 30 #[.pointer (some ⟨b, 0, none⟩), .string s] w fun e w' => e = .returned (.int .i64 0) ∧ I s.size w' := by
 have HK' : Hid (∀ k, (hk : k < s.size) → ∀ ww, I k ww → Calls Tryz.prog 38 #[.pointer (some ⟨b, 0, none⟩), .int .u8 (s[k]'hk).toNat] ww fun e w' => ∃ O : Int, e = .returned (.int .i64 O) ∧ ¬ O = 4 ∧ I (k + 1) w') := HK
 clear HK
 go_enter Tryz.func30, Tryz.ntmps30
 go_wp2
 go_loopw [5, 9] (fun m i wr => ∃ k : Nat, k ≤ s.size ∧ i = .int .i64 k ∧ m = .int .i64 0 ∧ I k wr) (fun _ i _ => s.size - (intOf i).toNat)
 case atStart => exact ⟨0, Nat.zero_le _, rfl, rfl, h⟩
 case round =>
  obtain ⟨k, hk, rfl, rfl, h1⟩ := hrel
  by_cases hlt : k < s.size
  ·have HC := HK'.out k hlt _ h1
   go_wp2_with fail
   refine Calls.mono HC ?_
   rintro e w1 ⟨O, rfl, hO, h2⟩
   clear h1 HC
   have hO' : (O == 4) = false := by simp [hO]
   clear hO
   go_wp2
   go_roundw
   case rel => exact ⟨k + 1, by omega, by go_num, rfl, h2⟩
   case measure => simp [intOf] <;> omega
  ·have hkn : k = s.size := by omega
   subst hkn
   go_wp2
   go_ret
   exact ⟨rfl, h1⟩
end Go.Proofs.YtlendfhehhacpaaGreat
