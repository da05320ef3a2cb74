/- A part. -/
import Derived.Test.YtlendfhehhacpaaGreatT19
import Derived.Test.YtlendfhehhacpaaGreatT21
import Derived.Test.YtlendfhehhacpaaGreatT23
set_option linter.unusedVariables false
set_option linter.unusedSimpArgs false
set_option maxRecDepth 100000
set_option maxHeartbeats 8000000
namespace Go.Proofs.YtlendfhehhacpaaGreat
open Go.RowKit Nib Tryz
theorem tSeek_41 (s : ByteArray) (q d : Nat) (w : World) (hs : s.size ≤ 1000) (hq : q < s.size) (hd : d ≤ 1) (hd0 : 1 ≤ d ∨ bt s q = 41) :
  qC 287 #[.string s, .int .u8 41, .int .i64 q, .int .i64 d] w (.tuple #[.int .i64 (mtI (mtD s 41 40 d (q + 1))), .bool (mtB (mtD s 41 40 d (q + 1)))]) :=
 tSeekE_41 s q d w hs (Nat.le_of_lt hq) hd hd0
theorem tSeek_93 (s : ByteArray) (q d : Nat) (w : World) (hs : s.size ≤ 1000) (hq : q < s.size) (hd : d ≤ 1) (hd0 : 1 ≤ d ∨ bt s q = 93) :
  qC 287 #[.string s, .int .u8 93, .int .i64 q, .int .i64 d] w (.tuple #[.int .i64 (mtI (mtD s 93 91 d (q + 1))), .bool (mtB (mtD s 93 91 d (q + 1)))]) :=
 tSeekE_93 s q d w hs (Nat.le_of_lt hq) hd hd0
theorem tSeekE_125 (s : ByteArray) (q d : Nat) (w : World) (hs : s.size ≤ 1000) (hq : q ≤ s.size) (hd : d ≤ 1) (hd0 : 1 ≤ d ∨ bt s q = 125) :
  qC 287 #[.string s, .int .u8 125, .int .i64 q, .int .i64 d] w (.tuple #[.int .i64 (mtI (mtD s 125 123 d (q + 1))), .bool (mtB (mtD s 125 123 d (q + 1)))]) :=
 tSeekE_gen 125 123 5 4 qd qd qd qd qd qd qd qd qd s q d w hs hq hd hd0
theorem tSeek_125 (s : ByteArray) (q d : Nat) (w : World) (hs : s.size ≤ 1000) (hq : q < s.size) (hd : d ≤ 1) (hd0 : 1 ≤ d ∨ bt s q = 125) :
  qC 287 #[.string s, .int .u8 125, .int .i64 q, .int .i64 d] w (.tuple #[.int .i64 (mtI (mtD s 125 123 d (q + 1))), .bool (mtB (mtD s 125 123 d (q + 1)))]) :=
 tSeekE_125 s q d w hs (Nat.le_of_lt hq) hd hd0
theorem tPartner_any (s : ByteArray) (p : Nat) (w : World) (hs : s.size ≤ 1000) (hp : p < s.size) (hb : prt (bt s p) ≠ 0) :
  qC 255 #[.string s, .int .i64 p] w (.tuple #[.int .i64 (mtI (mtch s p)), .bool (mtB (mtch s p))]) := by
 have HS : qH 287 #[.string s, .int .u8 (((s[p]'hp).toNat : Nat) : Int), .int .i64 p, .int .i64 0] (.tuple #[.int .i64 (mtI (mtch s p)), .bool (mtB (mtch s p))]) := by
  intro ww
  rw [← bt_in hp]
  have hcase : bt s p = 40 ∨ bt s p = 91 ∨ bt s p = 123 ∨ bt s p = 41 ∨ bt s p = 93 ∨ bt s p = 125 := by
   unfold prt at hb
   by_cases h1 : bt s p = 40
   ·exact Or.inl h1
   by_cases h2 : bt s p = 91
   ·exact Or.inr (Or.inl h2)
   by_cases h3 : bt s p = 123
   ·exact Or.inr (Or.inr (Or.inl h3))
   by_cases h4 : bt s p = 41
   ·exact Or.inr (Or.inr (Or.inr (Or.inl h4)))
   by_cases h5 : bt s p = 93
   ·exact Or.inr (Or.inr (Or.inr (Or.inr (Or.inl h5))))
   by_cases h6 : bt s p = 125
   ·exact Or.inr (Or.inr (Or.inr (Or.inr (Or.inr h6))))
   ·rw [if_neg h1, if_neg h2, if_neg h3, if_neg h4, if_neg h5, if_neg h6] at hb
    exact absurd rfl hb
  rcases hcase with h | h | h | h | h | h
  ·have e : mtch s p = mtU s 40 41 (s.size - p) ((0 : Nat) : Int) p := by unfold mtch; rw [h]; rfl
   rw [e, h]; exact tSeek_40 s p 0 ww hs hp qo (Or.inr h)
  ·have e : mtch s p = mtU s 91 93 (s.size - p) ((0 : Nat) : Int) p := by unfold mtch; rw [h]; rfl
   rw [e, h]; exact tSeek_91 s p 0 ww hs hp qo (Or.inr h)
  ·have e : mtch s p = mtU s 123 125 (s.size - p) ((0 : Nat) : Int) p := by unfold mtch; rw [h]; rfl
   rw [e, h]; exact tSeek_123 s p 0 ww hs hp qo (Or.inr h)
  ·have e : mtch s p = mtD s 41 40 ((0 : Nat) : Int) (p + 1) := by unfold mtch; rw [h]; rfl
   rw [e, h]; exact tSeek_41 s p 0 ww hs hp qo (Or.inr h)
  ·have e : mtch s p = mtD s 93 91 ((0 : Nat) : Int) (p + 1) := by unfold mtch; rw [h]; rfl
   rw [e, h]; exact tSeek_93 s p 0 ww hs hp qo (Or.inr h)
  ·have e : mtch s p = mtD s 125 123 ((0 : Nat) : Int) (p + 1) := by unfold mtch; rw [h]; rfl
   rw [e, h]; exact tSeek_125 s p 0 ww hs hp qo (Or.inr h)
 generalize mtch s p = M at *
 generalize mtI M = X at *
 generalize mtB M = Z at *
 clear hb
 go_enter func255, ntmps255
 go_wp2_with fail
 refine (HS.out _).mono ?_
 rintro e w1 ⟨rfl, h1⟩
 obtain ⟨hc1, hf1, hz1⟩ := qb h1
 try simp at hz1
 go_wp2
 all_goals
  first
   | (exact qV (.tuple #[.int .i64 X, .bool Z]) (by simp [results, results255, go_sem]) rfl)
theorem vDo_copy (s : ByteArray) (a b p r : Int) (l : Bool) (w : World)
  (HB : qH 221 #[.string s, .agg #[.int .i64 a, .int .i64 b, .bool l], .int .i64 p] (.int .i64 r)) :
  qC 174 #[.int .u8 121, .string s, .agg #[.int .i64 a, .int .i64 b, .bool l], .int .i64 p] w (.tuple #[.string s, .int .i64 r]) := by
 go_enter func174, ntmps174
 go_wp2_with fail
 refine (HB.out _).mono ?_
 rintro e w1 ⟨rfl, h1⟩
 obtain ⟨hc1, hf1, hz1⟩ := qb h1
 try simp at hz1
 go_wp2
 refine bodyPost_ret (v := .tuple #[.string s, .int .i64 r]) (by simp [results, results174, go_sem]) rfl ⟨rfl, ?_⟩
 exact qB
theorem vWithout_piece (s : ByteArray) (i j : Nat) (w : World) (hs : s.size ≤ 1000) (h : i ≤ j) (hj : j ≤ s.size) :
  qC 218 #[.string s, .agg #[.int .i64 i, .int .i64 j, .bool false]] w (.tuple #[.string (s.extract 0 i ++ s.extract j s.size), .int .i64 i]) := by
 have HW : qH 192 #[.string s, .agg #[.int .i64 (i), .int .i64 (j)], .string ⟨#[]⟩] (.string (s.extract 0 i ++ s.extract j s.size)) := by
  intro ww
  have := tWith_any s ⟨#[]⟩ i j i j ww hs qd rfl rfl h hj
  rw [show s.extract 0 i ++ (⟨#[]⟩ : ByteArray) = s.extract 0 i from ByteArray.append_empty] at this
  exact this
 generalize s.extract 0 i ++ s.extract j s.size = X at *
 go_enter func218, ntmps218
 go_wp2_with fail
 go_wp2_with fail
 go_region_held3 (fun ww => ww.cell? ⟨w.heap.size, 0, none⟩ = some (.int .i64 i) ∧ ww.cell? ⟨w.heap.size, 1, none⟩ = some (.int .i64 j)) ((refine ⟨?_, ?_⟩ <;> go_simp)) ((go_at_call 192; refine (HW.out _).mono ?_; rintro r1 w1 ⟨rfl, h1⟩; obtain ⟨hc1, hf1, hz1⟩ := qb h1; (try simp at hz1); (try have ⟨hl1_0, hk1_0⟩ := qL w.heap.size w1.heap.size)))
 go_wp2
 refine bodyPost_ret (v := .tuple #[.string X, .int .i64 i]) (by simp [results, results218, go_sem]) rfl ⟨rfl, ?_⟩
 exact qB
theorem mTaken_piece (s : ByteArray) (i j : Nat) (l : Bool) (w : World) (hs : s.size ≤ 1000) (h : i ≤ j) (hj : j ≤ s.size) :
  qC 173 #[.string s, .agg #[.int .i64 i, .int .i64 j, .bool l]] w (.agg #[.string (s.extract i j ++ if l then ⟨#[10]⟩ else ⟨#[]⟩), .bool l]) := by
 have HO : qH 87 #[.string s, .agg #[.int .i64 (i), .int .i64 (j)]] (.string (s.extract i j)) := fun ww => tOf_any s i j i j ww hs rfl rfl h hj
 have hz : (s.extract i j).size ≤ 1000 := by rw [ByteArray.size_extract]; omega
 generalize s.extract i j = X at *
 cases l
 ·rw [if_neg qi, show X ++ (⟨#[]⟩ : ByteArray) = X from ByteArray.append_empty]
  go_enter func173, ntmps173
  go_wp2_with fail
  refine (HO.out _).mono ?_
  rintro e w1 ⟨rfl, h1⟩
  obtain ⟨hc1, hf1, hz1⟩ := qb h1
  try simp at hz1
  have l1 : w.heap.size + 1 < w1.heap.size := by omega
  have z0 : ∀ o, w1.frozen? ⟨w.heap.size + 1, o, none⟩ = false := by intro o; rw [hf1 _ _ qi]; first | (go_simp; done) | simp
  have c1 : w1.cell? ⟨w.heap.size + 1, 0, none⟩ = some (.string ⟨#[]⟩) := by rw [hc1 _ _ qi]; first | (go_simp; done) | simp
  have c2 : w1.cell? ⟨w.heap.size + 1, 1, none⟩ = some (.bool false) := by rw [hc1 _ _ qi]; first | (go_simp; done) | simp
  have c3 : w1.cell? ⟨w.heap.size, 2, none⟩ = some (.bool false) := by rw [hc1 _ _ qs]; first | (go_simp; done) | simp
  clear hc1 hf1
  go_wp2
  refine bodyPost_ret (v := .agg #[.string X, .bool false]) (by simp [results, results173, go_sem, c1, c2, z0, l1]) rfl ⟨rfl, ?_⟩
  exact qB
 ·rw [if_pos rfl]
  have f1 : ¬ 9223372036854775807 < X.size + 1 := by omega
  go_enter func173, ntmps173
  go_wp2_with fail
  refine (HO.out _).mono ?_
  rintro e w1 ⟨rfl, h1⟩
  obtain ⟨hc1, hf1, hz1⟩ := qb h1
  try simp at hz1
  have l1 : w.heap.size + 1 < w1.heap.size := by omega
  have z0 : ∀ o, w1.frozen? ⟨w.heap.size + 1, o, none⟩ = false := by intro o; rw [hf1 _ _ qi]; first | (go_simp; done) | simp
  have c1 : w1.cell? ⟨w.heap.size + 1, 0, none⟩ = some (.string ⟨#[]⟩) := by rw [hc1 _ _ qi]; first | (go_simp; done) | simp
  have c2 : w1.cell? ⟨w.heap.size + 1, 1, none⟩ = some (.bool false) := by rw [hc1 _ _ qi]; first | (go_simp; done) | simp
  have c3 : w1.cell? ⟨w.heap.size, 2, none⟩ = some (.bool true) := by rw [hc1 _ _ qs]; first | (go_simp; done) | simp
  clear hc1 hf1
  go_wp2
  refine bodyPost_ret (v := .agg #[.string (X ++ ⟨#[10]⟩), .bool true]) (by simp [results, results173, go_sem, c1, c2, z0, l1]) rfl ⟨rfl, ?_⟩
  exact qB
theorem mInsertAt (r d : Nat) (p : Pg) (k : Nat) (w : World) (h : RdAt w r d p) :
  Calls Tryz.prog 178 #[.pointer (some ⟨d, 0, none⟩), .int .i64 (k : Nat)] w fun e w' => e = .returned (.int .i64 1) ∧ RdAt w' r d { p with mode := 1, anchor := 0, pl := k } ∧ Upd [d] w w' := by
 have HS := ((h.set_mode 1).set_anchor 0).set_pl k
 have H := h
 obtain ⟨c0, c1, c2, c3, c4, c5, c6, c7, c8, c9, fz, lt⟩ := h.dk
 clear c0 c4 c5 c6 c7 c8 c9 h
 go_enter func178, ntmps178
 go_wp2
 go_ret
 refine ⟨rfl, HS, ?_⟩
 repeat exact qU
def put (t b : ByteArray) (k : Nat) : ByteArray := t.extract 0 k ++ b ++ t.extract k t.size
theorem mWrite_fits (r d : Nat) (p : Pg) (k : Nat) (b : ByteArray) (w : World) (h : RdAt w r d p) (hs : p.t.size ≤ 1000) (hb : b.size ≤ 1000000) (hk : k ≤ p.t.size) (hf : (put p.t b k).size ≤ 1000) :
  Calls Tryz.prog 188 #[.pointer (some ⟨d, 0, none⟩), .int .i64 (k : Nat), .string b] w fun e w' => e = .returned (.bool true) ∧ RdAt w' r d { p with t := put p.t b k } ∧ Upd [d] w w' := by
 have HW : qH 192 #[.string p.t, .agg #[.int .i64 (((k : Nat) : Int)), .int .i64 (((k : Nat) : Int))], .string b] (.string (put p.t b k)) := fun ww => tWith_any p.t b _ _ k k ww hs hb rfl rfl (Nat.le_refl _) hk
 have HB : Hid (∀ ww, RdAt ww r d p → Calls Tryz.prog 175 #[.pointer (some ⟨d, 0, none⟩), .string (put p.t b k)] ww fun e w' => e = .returned (.bool true) ∧ RdAt w' r d { p with t := put p.t b k } ∧ Upd [d] ww w') := fun ww hh => mBecome r d p (put p.t b k) ww hh hf
 have H := h
 have d0 := h.dk.c0
 have hld := h.dk.lt
 generalize hp2 : ({ p with t := put p.t b k } : Pg) = p2 at *
 generalize put p.t b k = X at *
 clear h hp2
 go_enter func188, ntmps188
 go_wp2_with fail
 refine Calls.mono (HW.out _) ?_
 rintro e w1 ⟨rfl, h1⟩
 go_wp2_with fail
 refine Calls.mono (HB.out _ qRd) ?_
 rintro e w2 ⟨rfl, h2, u2⟩
 exact qt15
theorem mWrite_long (r d : Nat) (p : Pg) (k : Nat) (b : ByteArray) (w : World) (h : RdAt w r d p) (hs : p.t.size ≤ 1000) (hb : b.size ≤ 1000000) (hk : k ≤ p.t.size) (hf : 1000 < (put p.t b k).size) :
  qC 188 #[.pointer (some ⟨d, 0, none⟩), .int .i64 (k : Nat), .string b] w (.bool false) := by
 have HW : qH 192 #[.string p.t, .agg #[.int .i64 (((k : Nat) : Int)), .int .i64 (((k : Nat) : Int))], .string b] (.string (put p.t b k)) := fun ww => tWith_any p.t b _ _ k k ww hs hb rfl rfl (Nat.le_refl _) hk
 have HB : Hid (∀ ww, Calls Tryz.prog 175 #[.pointer (some ⟨d, 0, none⟩), .string (put p.t b k)] ww fun e w' => e = .returned (.bool false) ∧ w' = ww) := fun ww => mBecome_long r d (put p.t b k) ww hf
 have d0 := h.dk.c0
 have hld := h.dk.lt
 generalize put p.t b k = X at *
 clear h
 go_enter func188, ntmps188
 go_wp2_with fail
 refine Calls.mono (HW.out _) ?_
 rintro e w1 ⟨rfl, h1⟩
 go_wp2_with fail
 refine Calls.mono (HB.out _) ?_
 rintro e w2 ⟨rfl, rfl⟩
 go_wp2
 go_ret
 refine ⟨rfl, ?_⟩
 repeat exact qB
theorem iPut_fits (r d : Nat) (p : Pg) (b : ByteArray) (w : World) (h : RdAt w r d p) (hs : p.t.size ≤ 1000) (hb : b.size ≤ 1000000) (hk : p.pl ≤ p.t.size) (hf : (put p.t b p.pl).size ≤ 1000) :
  Calls Tryz.prog 306 #[.agg #[.pointer (some ⟨d, 0, none⟩)], .string b] w fun e w' => e = .returned (.tuple #[]) ∧ RdAt w' r d { p with t := put p.t b p.pl, pl := p.pl + b.size } ∧ Upd [d] w w' := by
 have HW : Hid (∀ ww, RdAt ww r d p → Calls Tryz.prog 188 #[.pointer (some ⟨d, 0, none⟩), .int .i64 (p.pl : Nat), .string b] ww fun e w' => e = .returned (.bool true) ∧ RdAt w' r d { p with t := put p.t b p.pl } ∧ Upd [d] ww w') := fun ww hh => mWrite_fits r d p p.pl b ww hh hs hb hk hf
 have HS : Hid (∀ ww, RdAt ww r d { p with t := put p.t b p.pl } → RdAt (ww.setCell ⟨d, 1, none⟩ (.int .i64 ((p.pl : Int) + b.size))) r d { p with t := put p.t b p.pl, pl := p.pl + b.size }) := fun ww hh => by
  have := hh.set_pl (p.pl + b.size)
  rw [show (((p.pl + b.size : Nat) : Int)) = (p.pl : Int) + b.size by omega] at this
  exact this
 have H := h
 have d1 := h.dk.c1
 have hld := h.dk.lt
 have l1 : d < w.heap.size + 1 := by omega
 have hwr : IntKind.i64.wrap (((p.pl : Nat) : Int) + ((b.size : Nat) : Int)) = ((p.pl : Nat) : Int) + ((b.size : Nat) : Int) := by rw [IntKind.wrap_i64]; omega
 have hp2 : ({ p with t := put p.t b p.pl } : Pg).pl = p.pl := rfl
 generalize hP2 : ({ p with t := put p.t b p.pl } : Pg) = p2 at *
 generalize hP3 : ({ p with t := put p.t b p.pl, pl := p.pl + b.size } : Pg) = p3 at *
 clear h hP2 hP3
 go_enter func306, ntmps306
 have g0 : (w.alloc (.cells #[.pointer (some ⟨d, 0, none⟩)] 80)).cell? ⟨w.heap.size, 0, none⟩ = some (.pointer (some ⟨d, 0, none⟩)) := by simp
 go_wp2_with fail
 go_region_held3 (fun ww => ww.cell? ⟨w.heap.size, 0, none⟩ = some (.pointer (some ⟨d, 0, none⟩)) ∧ ww.cell? ⟨d, 1, none⟩ = some (.int .i64 p.pl)) (exact qK) ((go_at_call 188; refine Calls.mono (HW.out _ qRd) ?_; rintro r3 w3 ⟨rfl, h3, u3⟩; have hz3 := u3.size; (try simp at hz3); have a1 := h3.dk.c1; rw [hp2] at a1; have az := h3.dk.fz; have al := h3.dk.lt; have a0 := u3.was (b := w.heap.size) (o := 0) (v := .pointer (some ⟨d, 0, none⟩)) qM qs))
 go_wp2
 first | go_end0 | refine bodyPost_ret (results_none rfl _ _ _) rfl ?_
 refine ⟨rfl, ?_, ?_⟩
 ·first | exact HS.out _ h3 | exact (HS.out _ h3).drew | exact HS.out _ h3.drew
 ·repeat exact qU
theorem iPut_long (r d : Nat) (p : Pg) (b : ByteArray) (w : World) (h : RdAt w r d p) (hs : p.t.size ≤ 1000) (hb : b.size ≤ 1000000) (hk : p.pl ≤ p.t.size) (hf : 1000 < (put p.t b p.pl).size) :
  qC 306 #[.agg #[.pointer (some ⟨d, 0, none⟩)], .string b] w (.tuple #[]) := by
 have HW : Hid (∀ ww, RdAt ww r d p → qC 188 #[.pointer (some ⟨d, 0, none⟩), .int .i64 (p.pl : Nat), .string b] ww (.bool false)) := fun ww hh => mWrite_long r d p p.pl b ww hh hs hb hk hf
 have H := h
 have d1 := h.dk.c1
 have hld := h.dk.lt
 clear h
 go_enter func306, ntmps306
 have g0 : (w.alloc (.cells #[.pointer (some ⟨d, 0, none⟩)] 80)).cell? ⟨w.heap.size, 0, none⟩ = some (.pointer (some ⟨d, 0, none⟩)) := by simp
 go_wp2_with fail
 go_region_held3 (fun ww => ww.cell? ⟨w.heap.size, 0, none⟩ = some (.pointer (some ⟨d, 0, none⟩)) ∧ ww.cell? ⟨d, 1, none⟩ = some (.int .i64 p.pl)) (exact qK) ((go_at_call 188; refine Calls.mono (HW.out _ qRd) ?_; rintro r1 w1 ⟨rfl, h1⟩; have hz1 := h1.size; (try simp at hz1); (try have ⟨hl1_0, hk1_0⟩ := qL d w1.heap.size); (try have ⟨hl1_1, hk1_1⟩ := qL w.heap.size w1.heap.size)))
 go_wp2
 first | go_end0 | refine bodyPost_ret (results_none rfl _ _ _) rfl ?_
 refine ⟨rfl, ?_⟩
 repeat exact qB
theorem nNew_ok (t : ByteArray) (w : World) (h : t.size ≤ 1000) :
  Calls Tryz.prog 24 #[.string t] w fun e w' => ∃ q b r d m : Nat, e = .returned (.tuple #[.pointer (some ⟨q, 0, none⟩), .int .i64 0]) ∧ w'.cell? ⟨q, 0, none⟩ = some (.pointer (some ⟨b, 0, none⟩)) ∧ NbAt w' b r d (newPg t m) (.slice none 0 0) 0 ⟨#[]⟩ ∧ w'.heap[m]? = some (.map #[] 0) ∧
   w.heap.size ≤ q ∧ w.heap.size ≤ m ∧ w.heap.size ≤ b ∧ w.heap.size ≤ r ∧ w.heap.size ≤ d ∧ q ≠ b ∧ q ≠ r ∧ q ≠ d ∧ m ≠ b ∧ m ≠ r ∧ m ≠ d ∧ q < w'.heap.size ∧ Below w.heap.size w w' := by
 have h' : ¬ (1000 : Int) < (t.size : Int) := by omega
 have HN : Hid (∀ ww, Calls Tryz.prog 33 #[.string t] ww fun e w' => ∃ b r d m : Nat, e = .returned (.pointer (some ⟨b, 0, none⟩)) ∧ NbAt w' b r d (newPg t m) (.slice none 0 0) 0 ⟨#[]⟩ ∧ w'.heap[m]? = some (.map #[] 0) ∧
   ww.heap.size ≤ m ∧ ww.heap.size ≤ b ∧ ww.heap.size ≤ r ∧ ww.heap.size ≤ d ∧ m ≠ b ∧ m ≠ r ∧ m ≠ d ∧ Below ww.heap.size ww w') := fun ww => bNew t ww
 go_enter func24, ntmps24
 go_wp2_with fail
 refine Calls.mono (HN.out _) ?_
 rintro e w1 ⟨b, r, d, m, rfl, hN, hm, m1, m2, m3, m4, m5, m6, m7, h1⟩
 have HB : Hid (NbAt w1 b r d (newPg t m) (.slice none 0 0) 0 ⟨#[]⟩) := hN
 have HM : Hid (w1.heap[m]? = some (.map #[] 0)) := hm
 have bl := hN.bd.lt
 have rl := hN.rd.bg.lt
 have dl := hN.rd.dk.lt
 have ml : m < w1.heap.size := (Array.getElem?_eq_some_iff.1 hm).1
 have hz1 := h1.size
 clear hN hm
 go_wp2
 go_ret2
 refine ⟨w1.heap.size, b, r, d, m, rfl, by simp, ?_, ?_, by omega, m1, m2, m3, m4, by omega, by omega, by omega, m5, m6, m7, by simp, ?_⟩
 ·exact ⟨HB.out.bd.alloc _, HB.out.rd.alloc _, ⟨_, World.ownsRow_nil _ _ _ _⟩, HB.out.br, HB.out.bd', HB.out.tb, HB.out.tr, HB.out.td⟩
 ·rw [Below.heap_alloc _ _ _ ml]; exact HM.out
 ·repeat exact qB
theorem nType (q b : Nat) (s : ByteArray) (w : World) (N : Int) (Q : World → Prop) (hq : w.cell? ⟨q, 0, none⟩ = some (.pointer (some ⟨b, 0, none⟩)))
  (HT : Hid (∀ ww, ww = w → Calls Tryz.prog 30 #[.pointer (some ⟨b, 0, none⟩), .string s] ww fun e w' => e = .returned (.int .i64 N) ∧ Q w')) :
  Calls Tryz.prog 17 #[.pointer (some ⟨q, 0, none⟩), .string s] w fun e w' => e = .returned (.int .i64 N) ∧ Q w' := by
 go_enter func17, ntmps17
 go_wp2_with fail
 refine Calls.mono (HT.out _ rfl) ?_
 rintro e w1 ⟨rfl, h1⟩
 have HQ : Hid (Q w1) := h1
 clear h1
 go_wp2
 go_ret
 exact ⟨rfl, HQ.out⟩
theorem nState (q b r d : Nat) (tv : Value) (dg : ByteArray) (p : Pg) (w : World) (hq : w.cell? ⟨q, 0, none⟩ = some (.pointer (some ⟨b, 0, none⟩))) (hb : BdAt w b r d tv dg) (h : RdAt w r d p) :
  qC 18 #[.pointer (some ⟨q, 0, none⟩)] w (.agg #[.string p.t, .int .i64 (p.pl : Nat), .int .i64 (p.anchor : Nat), .int .i64 p.mode, .bool (waits p)]) := by
 have HS : Hid (∀ ww, BdAt ww b r d tv dg → RdAt ww r d p → qC 31 #[.pointer (some ⟨b, 0, none⟩)] ww (.agg #[.string p.t, .int .i64 (p.pl : Nat), .int .i64 (p.anchor : Nat), .int .i64 p.mode, .bool (waits p)])) := fun ww h1 h2 => bState b r d tv dg p ww h1 h2
 generalize waits p = N at *
 have ql : q < w.heap.size := World.block_lt_of_cell? w ⟨q, 0, none⟩ hq
 have l1 : q < w.heap.size + 1 := by omega
 go_enter func18, ntmps18
 go_wp2_with fail
 refine Calls.mono (HS.out _ (hb.alloc _) (h.alloc _)) ?_
 rintro e w1 ⟨rfl, h1⟩
 obtain ⟨hc1, hf1, hz1⟩ := qb h1
 simp at hz1
 have e0 := fun o => hc1 w.heap.size o qi
 have e1 := fun o => hf1 w.heap.size o qi
 clear hc1 hf1
 go_wp2
 exact qV (.agg #[.string p.t, .int .i64 (p.pl : Nat), .int .i64 (p.anchor : Nat), .int .i64 p.mode, .bool N]) (by simp [results, results18, go_sem, e0]) rfl
theorem RgAt.new {w : World} {m k : Nat} (h : w.heap[m]? = some (.map #[] k)) : RgAt w m (fun _ => .agg #[.string ⟨#[]⟩, .bool false]) :=
 ⟨#[], k, h, by simp [RgOk], fun d => by simp [rgFind, rgVal]⟩
theorem RgAt.look {w : World} {m : Nat} {f : Int → Value} (h : RgAt w m f) (c : Int) : (Instr.lookup 90 (.map (some m)) (.int .u8 c) false).run Tryz.prog w = .ok (f c) w := by
 obtain ⟨es, k, h1, h2, h3⟩ := h.out
 rw [rg_look m k c es w h1 h2, h3]
theorem bRegister_at (b r d m : Nat) (tv : Value) (dg : ByteArray) (p : Pg) (c : Int) (f : Int → Value) (t : ByteArray) (l : Bool) (w : World) (hb : BdAt w b r d tv dg) (h : RdAt w r d p) (hm : p.regs = .map (some m)) (hg : RgAt w m f) (hf : f c = .agg #[.string t, .bool l]) :
  qC 32 #[.pointer (some ⟨b, 0, none⟩), .int .u8 c] w (.tuple #[.string t, .bool l]) := by
 have c4 := h.dk.c4
 rw [hm] at c4
 have b0 := hb.c0
 have r0 := h.bg.c0
 have bl := hb.lt
 have rl := h.bg.lt
 have dl := h.dk.lt
 have l1 : d < w.heap.size + 1 := by omega
 have l2 : r < w.heap.size + 1 := by omega
 have l3 : b < w.heap.size + 1 := by omega
 clear hb h
 have hlk := hg.look c
 rw [hf] at hlk
 clear hg hf
 go_enter func32, ntmps32
 go_wp2_with fail
 go_region_held3 (fun ww => ww.cell? ⟨w.heap.size, 0, none⟩ = some (.string t) ∧ ww.cell? ⟨w.heap.size, 1, none⟩ = some (.bool l)) (exact qK) (fail)
 go_wp2
 go_ret2
 refine ⟨rfl, ?_⟩
 repeat exact qB
theorem nRegister_at (q b r d m : Nat) (tv : Value) (dg : ByteArray) (p : Pg) (c : Int) (f : Int → Value) (t : ByteArray) (l : Bool) (w : World) (hq : w.cell? ⟨q, 0, none⟩ = some (.pointer (some ⟨b, 0, none⟩))) (hb : BdAt w b r d tv dg) (h : RdAt w r d p) (hm : p.regs = .map (some m)) (hg : RgAt w m f) (hf : f c = .agg #[.string t, .bool l]) :
  qC 20 #[.pointer (some ⟨q, 0, none⟩), .int .u8 c] w (.tuple #[.string t, .bool l]) := by
 have HS : Hid (∀ ww, ww = w → qC 32 #[.pointer (some ⟨b, 0, none⟩), .int .u8 c] ww (.tuple #[.string t, .bool l])) := fun ww h1 => by subst h1; exact bRegister_at b r d m tv dg p c f t l ww hb h hm hg hf
 clear hb h hm hg hf
 go_enter func20, ntmps20
 go_wp2_with fail
 refine Calls.mono (HS.out _ rfl) ?_
 rintro e w1 ⟨rfl, h1⟩
 go_wp2
 go_ret2
 exact ⟨rfl, h1⟩
theorem press_endS {σ : Type} (b r d : Nat) (p : Pg) (key : Int) (O : σ → Int) (T : σ → ByteArray) (A : World → Prop) (B C D E : σ → World → Prop) (w : World) (hA : A w) (pA : HasB A b r d p) (pB : ∀ s ww, B s ww → ∃ tv dg, BdAt ww b r d tv dg)
  (pC : ∀ s ww, C s ww → ∃ tv dg p2, BdAt ww b r d tv dg ∧ RdAt ww r d p2 ∧ ¬ p2.mode = 1) (pD : ∀ s ww, D s ww → ∃ tv dg p2, BdAt ww b r d tv dg ∧ RdAt ww r d p2 ∧ p2.t = T s)
  (pE : ∀ s ww, E s ww → (∃ tv dg, BdAt ww b r d tv dg) ∧ ww.cell? ⟨r, 0, none⟩ = some (.pointer (some ⟨d, 0, none⟩)) ∧ ww.cell? ⟨d, 0, none⟩ = some (.string (T s))) (fD : ∀ s ww, D s ww → D s ww.drew)
  (HT : Hid (∀ ww, A ww → Calls Tryz.prog 46 #[.pointer (some ⟨b, 0, none⟩), .int .u8 key] ww fun e w' => ∃ s, e = .returned (.int .i64 (O s)) ∧ ¬ O s = 0 ∧ B s w'))
  (HK : Hid (∀ s, GivesT 47 #[.pointer (some ⟨b, 1, none⟩), .int .u8 key, .int .i64 p.mode] (B s) (C s)))
  (HE : Hid (∀ s, GivesT 48 #[.pointer (some ⟨b, 1, none⟩), .int .i64 (O s)] (C s) (D s)))
  (HH : Hid (∀ s, GivesT 49 #[.pointer (some ⟨d, 5, none⟩), .string (T s)] (D s) (E s))) :
  Calls Tryz.prog 38 #[.pointer (some ⟨b, 0, none⟩), .int .u8 key] w fun e w' => ∃ s, e = .returned (.int .i64 (O s)) ∧ E s w' := by
 obtain ⟨⟨tv, dg, HB⟩, HR⟩ := pA w hA
 have b0 := HB.c0
 have r0 := HR.bg.c0
 have d3 := HR.dk.c3
 have bl := HB.lt
 have rl := HR.bg.lt
 have dl := HR.dk.lt
 have pB' : Hid (∀ s ww, B s ww → ∃ tv dg, BdAt ww b r d tv dg) := pB
 have pC' : Hid (∀ s ww, C s ww → ∃ tv dg p2, BdAt ww b r d tv dg ∧ RdAt ww r d p2 ∧ ¬ p2.mode = 1) := pC
 have pD' : Hid (∀ s ww, D s ww → ∃ tv dg p2, BdAt ww b r d tv dg ∧ RdAt ww r d p2 ∧ p2.t = T s) := pD
 have pE' : Hid (∀ s ww, E s ww → (∃ tv dg, BdAt ww b r d tv dg) ∧ ww.cell? ⟨r, 0, none⟩ = some (.pointer (some ⟨d, 0, none⟩)) ∧ ww.cell? ⟨d, 0, none⟩ = some (.string (T s))) := pE
 clear pB pA pC pD pE
 go_enter func38, ntmps38
 go_wp2_with fail
 refine Calls.mono (HT.out _ hA) ?_
 rintro e w1 ⟨s, rfl, hO, h1⟩
 obtain ⟨tv1, dg1, B1⟩ := pB'.out s w1 h1
 have bl1 := B1.lt
 have hQ : Hid (∃ z, z = O s) := ⟨_, rfl⟩
 have HK1 := HK.out s
 have HE1 := HE.out s
 have HH1 := HH.out s
 generalize hOs : O s = Q at *
 generalize hTs : T s = X at *
 have hO' : (Q == 0) = false := by simp [hO]
 have hO2 : (Q != 0) = true := by simp [hO]
 clear hQ hO
 go_wp2_with fail
 refine Calls.mono (HK1.out _ h1) ?_
 rintro e w2 ⟨rfl, h2⟩
 obtain ⟨tv2, dg2, p2, B2, R2, hm⟩ := pC'.out s w2 h2
 have hm' : (p2.mode != 1) = true := by simp [hm]
 have hm2 : (p2.mode == 1) = false := by simp [hm]
 have e0 := B2.c0
 have e1 := R2.bg.c0
 have e2 := R2.dk.c3
 have bl2 := B2.lt
 clear h1 hm
 go_wp2_with fail
 refine Calls.mono (HE1.out _ h2) ?_
 rintro e w3 ⟨rfl, h3⟩
 obtain ⟨tv3, dg3, p3, B3, R3, ht⟩ := pD'.out s w3 h3
 have g0 := B3.c0
 have g1 := R3.bg.c0
 have g2 := R3.dk.c0
 rw [ht, hTs] at g2
 have D3 := fD s w3 h3
 clear h2 h3
 go_wp2_with fail
 go_region_held3 (fun ww => ww.cell? ⟨b, 0, none⟩ = some (.pointer (some ⟨r, 0, none⟩)) ∧ ww.cell? ⟨r, 0, none⟩ = some (.pointer (some ⟨d, 0, none⟩)) ∧ ww.cell? ⟨d, 0, none⟩ = some (.string X)) ((refine ⟨?_, ?_, ?_⟩ <;> (first | (go_simp; done) | (with_reducible assumption)))) ((go_at_call 49; refine Calls.mono (HH1.out _ D3) ?_; rintro e4 w4 ⟨rfl, h4⟩; obtain ⟨⟨tv4, dg4, B4⟩, q1, q2⟩ := pE'.out s w4 h4; rw [hTs] at q2; have q0 := B4.c0; have HE4 : Hid (E s w4) := h4; clear h4))
 go_wp2
 go_ret
 refine ⟨s, ?_, HE4.out⟩
 rw [hOs]
 rfl
