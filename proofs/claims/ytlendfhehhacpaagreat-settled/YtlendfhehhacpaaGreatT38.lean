/- A part. -/
import Derived.Test.YtlendfhehhacpaaGreatT30
import Derived.Test.YtlendfhehhacpaaGreatT34
set_option linter.unusedVariables false
set_option linter.unusedSimpArgs false
set_option maxRecDepth 100000
set_option maxHeartbeats 8000000
namespace Go.Proofs.YtlendfhehhacpaaGreat
open Go.RowKit Nib Tryz
theorem mDo_long (v : Int) (r d m : Nat) (p : Pg) (i j : Nat) (l : Bool) (t2 : ByteArray) (q : Nat) (f : Int → Value) (w : World) (h : RdAt w r d p) (hg : RgAt w m f) (hm : p.regs = .map (some m)) (hmr : m ≠ r) (hmd : m ≠ d) (hs : p.t.size ≤ 1000) (hs2 : 1000 < t2.size) (hij : i ≤ j) (hj : j ≤ p.t.size) (hne : ¬ (i = j ∧ l = false)) (hv : v = 62 ∨ v = 60 ∨ v = 117 ∨ v = 85)
  (HD : qH 174 #[.int .u8 v, .string p.t, .agg #[.int .i64 i, .int .i64 j, .bool l], .int .i64 p.pl] (.tuple #[.string t2, .int .i64 q])) :
  Calls Tryz.prog 146 #[.pointer (some ⟨r, 0, none⟩), .int .u8 v, .agg #[.int .i64 i, .int .i64 j, .bool l]] w fun e w' => e = .returned (.int .i64 4) ∧ RdAt w' r d p ∧ RgAt w' m f ∧ Upd [d, m] w w' := by
 have HN : qH 172 #[.agg #[.int .i64 i, .int .i64 j, .bool l]] (.bool false) := by
  exact qt56
 have HT : qH 173 #[.string p.t, .agg #[.int .i64 i, .int .i64 j, .bool l]] (.agg #[.string (tkn p.t i j l), .bool l]) := fun ww => mTaken_piece p.t i j l ww hs hij hj
 generalize tkn p.t i j l = X at *
 have HBc : Hid (∀ ww, Calls Tryz.prog 175 #[.pointer (some ⟨d, 0, none⟩), .string t2] ww fun e w' => e = .returned (.bool false) ∧ w' = ww) := fun ww => mBecome_long r d t2 ww hs2
 have hml := hg.lt
 have v99 : (v == 99) = false := by simp; omega
 have v121 : (v == 121) = false := by simp; omega
 have v99' : (v != 99) = true := by simp; omega
 have H := h
 obtain ⟨c0, c1, c2, c3, c4, c5, c6, c7, c8, c9, fz, lt⟩ := h.dk
 obtain ⟨b0, b1, b2, b3, b4, b5, bz, bl⟩ := h.bg
 clear c2 c3 c4 c5 c6 c7 c8 c9 b1 b2 b3 b4 b5 h
 have l1 : r < w.heap.size + 1 := by omega
 have l2 : d < w.heap.size + 1 := by omega
 have l3 : ¬ w.heap.size = d := by omega
 have l4 : ¬ w.heap.size = r := by omega
 go_enter func146, ntmps146
 go_wp2_with fail
 refine (HN.out _).mono ?_
 rintro e w1 ⟨rfl, h1⟩
 obtain ⟨hc1, hf1, hz1⟩ := qb h1
 try simp at hz1
 have d0 : w1.cell? ⟨d, 0, none⟩ = some (.string p.t) := by rw [hc1 _ _ qs]; go_simp
 have d1 : w1.cell? ⟨d, 1, none⟩ = some (.int .i64 p.pl) := by rw [hc1 _ _ qs]; go_simp
 have r0 : w1.cell? ⟨r, 0, none⟩ = some (.pointer (some ⟨d, 0, none⟩)) := by rw [hc1 _ _ qs]; go_simp
 have p0 : w1.cell? ⟨w.heap.size, 0, none⟩ = some (.int .i64 i) := by rw [hc1 _ _ qi]; simp
 have p1 : w1.cell? ⟨w.heap.size, 1, none⟩ = some (.int .i64 j) := by rw [hc1 _ _ qi]; simp
 have p2 : w1.cell? ⟨w.heap.size, 2, none⟩ = some (.bool l) := by rw [hc1 _ _ qi]; simp
 have k1 : r < w1.heap.size := by omega
 have k2 : d < w1.heap.size := by omega
 have k3 : w.heap.size < w1.heap.size := by omega
 clear hc1 hf1
 go_wp2_with fail
 go_region_held3 (fun ww => ww.cell? ⟨r, 0, none⟩ = some (.pointer (some ⟨d, 0, none⟩)) ∧ ww.cell? ⟨d, 0, none⟩ = some (.string p.t) ∧ ww.cell? ⟨w.heap.size, 0, none⟩ = some (.int .i64 i) ∧ ww.cell? ⟨w.heap.size, 1, none⟩ = some (.int .i64 j) ∧ ww.cell? ⟨w.heap.size, 2, none⟩ = some (.bool l)) (exact qK) (first | (go_at_call 173; with_reducible refine Calls.mono (HT.out (w1.alloc (.cells #[.string ⟨#[]⟩, .bool false] 99)).drew) ?_; rintro r2 w2 ⟨rfl, h2⟩; obtain ⟨hc2, hf2, hz2⟩ := qb h2; simp at hz2; have hn0 : w2.cell? ⟨w1.heap.size, 0, none⟩ = some (.string ⟨#[]⟩) := (hc2 (w1.heap.size) 0 qi).trans qi; have hn1 : w2.cell? ⟨w1.heap.size, 1, none⟩ = some (.bool false) := (hc2 (w1.heap.size) 1 qi).trans qi; have hq2 : ∀ o, w2.frozen? ⟨w1.heap.size, o, none⟩ = false := (fun o => (hf2 (w1.heap.size) o qi).trans qi); clear hc2 hf2) | (go_at_call 173; with_reducible refine Calls.mono (HT.out w1.drew) ?_; rintro r2 w2 ⟨rfl, h2⟩; have hz2 := h2.size; simp at hz2))
 rename_i hHeld
 have E : DoAt w (w2.alloc (.cells #[.string X, .bool l] 99)) r d m w.heap.size w2.heap.size p f i j l X := by
  exact qt32
 clear hHeld h1 h2 hz2 hg H d0 d1 r0 p0 p1 p2
 generalize (w2.alloc (.cells #[.string X, .bool l] 99)) = W at *
 generalize w2.heap.size = k at *
 rotate_left
 rename_i hHeld
 have E : DoAt w ((w2.setCell ⟨w1.heap.size, 0, none⟩ (.string X)).setCell ⟨w1.heap.size, 1, none⟩ (.bool l)) r d m w.heap.size w1.heap.size p f i j l X := by
  exact qt25
 clear hHeld h1 h2 hz2 hg H d0 d1 r0 p0 p1 p2
 generalize ((w2.setCell ⟨w1.heap.size, 0, none⟩ (.string X)).setCell ⟨w1.heap.size, 1, none⟩ (.bool l)) = W at *
 generalize w1.heap.size = k at *
 rotate_left
 all_goals
  obtain ⟨rd, rg, p0, p1, p2, x0, x1, lb, lk, up, lw⟩ := E
  have H := rd
  have r0 := rd.bg.c0
  have d0 := rd.dk.c0
  have d1 := rd.dk.c1
  have hlr := rd.bg.lt
  have hld := rd.dk.lt
  go_wp2_with fail
  go_region_held3 (fun ww => ww.cell? ⟨r, 0, none⟩ = some (.pointer (some ⟨d, 0, none⟩)) ∧ ww.cell? ⟨d, 0, none⟩ = some (.string p.t) ∧ ww.cell? ⟨d, 1, none⟩ = some (.int .i64 p.pl) ∧ ww.cell? ⟨w.heap.size, 0, none⟩ = some (.int .i64 i) ∧ ww.cell? ⟨w.heap.size, 1, none⟩ = some (.int .i64 j) ∧ ww.cell? ⟨w.heap.size, 2, none⟩ = some (.bool l)) (exact qK) ((go_at_call 174; refine Calls.mono (HD.out _) ?_; rintro r3 w3 ⟨rfl, h3⟩; have hz3 := h3.size; (try simp at hz3); (try have ⟨hl3_0, hk3_0⟩ := qL d w3.heap.size); (try have ⟨hl3_1, hk3_1⟩ := qL r w3.heap.size); (try have ⟨hl3_2, hk3_2⟩ := qL w.heap.size w3.heap.size)))
  have H3 := (rd.drew).below h3
  have G3 := (rg.drew).below h3
  have y0 := memLater h3 (memLater ((Below.refl _ _).drew) x0)
  have y1 := memLater h3 (memLater ((Below.refl _ _).drew) x1)
  have up3 : Below w.heap.size w w3 := by
   repeat exact qB
  clear rd rg x0 x1 up h3 H r0 d0 d1
  go_wp2_with fail
  refine Calls.mono (HBc.out _) ?_
  rintro e4 w4 ⟨rfl, rfl⟩
  go_wp2
  go_ret
  exact ⟨rfl, H3, G3, Upd.of_below up3⟩
theorem mSpot (r d : Nat) (p : Pg) (w : World) (h : RdAt w r d p) (hn : p.n ≤ 99) (hb : p.behind ≤ 99) :
  qC 156 #[.agg #[.pointer (some ⟨r, 0, none⟩)]] w (.agg #[.string p.t, .int .i64 p.pl, .int .i64 (max (cnt p) 1 : Nat)]) := by
 have HT : Hid (∀ ww, RdAt ww r d p → qC 161 #[.pointer (some ⟨r, 1, none⟩)] ww (.int .i64 (max (cnt p) 1 : Nat))) := fun ww hh => mTimes r d p ww hh hn hb
 have H := h
 have b0 := h.bg.c0
 have bl := h.bg.lt
 have c0 := h.dk.c0
 have c1 := h.dk.c1
 have dl := h.dk.lt
 have l1 : r < w.heap.size + 1 := by omega
 have l2 : d < w.heap.size + 1 := by omega
 have l3 : r < w.heap.size + 1 + 1 := by omega
 have l4 : d < w.heap.size + 1 + 1 := by omega
 generalize max (cnt p) 1 = N at *
 clear h
 go_enter func156, ntmps156
 have g0 : ((w.alloc (.cells #[.pointer (some ⟨r, 0, none⟩)] 77)).alloc (.cells #[.string ⟨#[]⟩, .int .i64 0, .int .i64 0] 192)).cell? ⟨w.heap.size, 0, none⟩ = some (.pointer (some ⟨r, 0, none⟩)) := by simp
 go_wp2_with fail
 go_region_held3 (fun ww => ww.cell? ⟨w.heap.size, 0, none⟩ = some (.pointer (some ⟨r, 0, none⟩)) ∧ ww.cell? ⟨r, 0, none⟩ = some (.pointer (some ⟨d, 0, none⟩)) ∧ ww.cell? ⟨d, 0, none⟩ = some (.string p.t) ∧ ww.cell? ⟨d, 1, none⟩ = some (.int .i64 p.pl)) (exact qK) ((go_at_call 161; refine Calls.mono (HT.out _ qRd) ?_; rintro r1 w1 ⟨rfl, h1⟩; have hz1 := h1.size; (try simp at hz1); (try have ⟨hl1_0, hk1_0⟩ := qL d w1.heap.size); (try have ⟨hl1_1, hk1_1⟩ := qL r w1.heap.size); (try have ⟨hl1_2, hk1_2⟩ := qL w.heap.size w1.heap.size); obtain ⟨hc1, hf1⟩ := bcell h1; have hn1_0 := (hc1 (w.heap.size + 1) 0 qO).trans (show _ = some (.string ⟨#[]⟩) by simp); have hn1_1 := (hc1 (w.heap.size + 1) 1 qO).trans (show _ = some (.int .i64 0) by simp); have hn1_2 := (hc1 (w.heap.size + 1) 2 qO).trans (show _ = some (.int .i64 0) by simp); have hq1 := fun o => (hf1 (w.heap.size + 1) o qO).trans (show _ = false by simp); have hg1 : w.heap.size + 1 < w1.heap.size := qo; clear hc1 hf1))
 go_wp2
 exact qV (.agg #[.string p.t, .int .i64 p.pl, .int .i64 N]) (by simp [results, results156, go_sem, hn1_0, hn1_1, hn1_2, hq1, hg1]) rfl
def edP (p : Pg) (X : ByteArray) (q : Nat) (is : Bool) : Pg := if is = true ∧ X.size ≤ 1000 then { p with t := X, pl := clm X q } else p
def edO (X : ByteArray) (is : Bool) : Int := if is = true ∧ X.size ≤ 1000 then 2 else 4
theorem mEdit (r d : Nat) (p : Pg) (X : ByteArray) (q : Nat) (is : Bool) (w : World) (h : RdAt w r d p) (hq : is = true → X.size ≤ 1000 → q ≤ X.size) :
  Calls Tryz.prog 155 #[.agg #[.pointer (some ⟨r, 0, none⟩)], .string X, .int .i64 q, .bool is] w fun e w' => e = .returned (.int .i64 (edO X is)) ∧ RdAt w' r d (edP p X q is) ∧ Upd [d] w w' := by
 have H := h
 have b0 := h.bg.c0
 have bl := h.bg.lt
 have dl := h.dk.lt
 have l1 : r < w.heap.size + 1 := by omega
 have l2 : d < w.heap.size + 1 := by omega
 unfold edP edO
 cases is with
 | false =>
  rw [if_neg qi, if_neg qi]
  clear hq
  go_enter func155, ntmps155
  exact qt15
 | true =>
  by_cases hx : X.size ≤ 1000
  ·have hq := hq rfl hx
   rw [if_pos ⟨rfl, hx⟩, if_pos ⟨rfl, hx⟩]
   have HB : Hid (∀ ww, RdAt ww r d p → Calls Tryz.prog 175 #[.pointer (some ⟨d, 0, none⟩), .string X] ww fun e w' => e = .returned (.bool true) ∧ RdAt w' r d { p with t := X } ∧ Upd [d] ww w') := fun ww hh => mBecome r d p X ww hh hx
   have HM : Hid (∀ ww, RdAt ww r d { p with t := X } → Calls Tryz.prog 179 #[.pointer (some ⟨d, 0, none⟩), .int .i64 q] ww fun e w' => e = .returned (.tuple #[]) ∧ RdAt w' r d { p with t := X, pl := clm X q } ∧ Upd [d] ww w') := fun ww hh => mMoveTo r d { p with t := X } q q ww hh hx rfl hq
   generalize hP : ({ p with t := X, pl := clm X q } : Pg) = p2 at *
   generalize hP3 : ({ p with t := X } : Pg) = p3 at *
   clear hP hP3 h hx hq
   go_enter func155, ntmps155
   go_wp2_with fail
   refine Calls.mono (HB.out _ qRd) ?_
   rintro e w1 ⟨rfl, h1, u1⟩
   have r0 := h1.bg.c0
   have g1 : w1.cell? ⟨w.heap.size, 0, none⟩ = some (.pointer (some ⟨r, 0, none⟩)) := u1.was qi qs
   go_wp2_with fail
   refine Calls.mono (HM.out _ h1) ?_
   rintro e w2 ⟨rfl, h2, u2⟩
   exact qt15
  ·rw [if_neg (fun e => hx e.2), if_neg (fun e => hx e.2)]
   have HB : Hid (∀ ww, Calls Tryz.prog 175 #[.pointer (some ⟨d, 0, none⟩), .string X] ww fun e w' => e = .returned (.bool false) ∧ w' = ww) := fun ww => mBecome_long r d X ww qo
   clear hq hx
   go_enter func155, ntmps155
   go_wp2_with fail
   refine (HB.out _).mono ?_
   rintro e w' ⟨rfl, rfl⟩
   exact qt15
def rdN (c : Int) : Int := if c = 0 then 34 else c
theorem rRead (m : Nat) (c : Int) (f : Int → Value) (t : ByteArray) (l : Bool) (w : World) (hg : RgAt w m f) (hf : f (rdN c) = .agg #[.string t, .bool l]) :
  qC 189 #[.map (some m), .int .u8 c] w (.agg #[.string t, .bool l]) := by
 have hl := hg.lt
 unfold rdN at hf
 by_cases h0 : c = 0
 ·rw [if_pos h0] at hf
  subst h0
  have hlk := (hg.alloc (.cells #[.string ⟨#[]⟩, .bool false] 99)).look 34
  rw [hf] at hlk
  clear hf hg
  go_enter func189, ntmps189
  go_wp2
  exact qV (.agg #[.string t, .bool l]) (by simp [results, results189, go_sem]) rfl
 ·rw [if_neg h0] at hf
  have hlk := (hg.alloc (.cells #[.string ⟨#[]⟩, .bool false] 99)).look c
  rw [hf] at hlk
  clear hf hg
  go_enter func189, ntmps189
  go_wp2
  exact qV (.agg #[.string t, .bool l]) (by simp [results, results189, go_sem]) rfl
abbrev GivesO (f : Nat) (args : Array Value) (s : ByteArray) : Prop :=
 ∃ (a b : Nat) (l is : Bool), a ≤ b ∧ b ≤ s.size ∧ ∀ ww, Calls Tryz.prog f args ww fun e w' => e = .returned (.tuple #[.agg #[.int .i64 a, .int .i64 b, .bool l], .bool is]) ∧ Below ww.heap.size ww w'
theorem oWordL (s : ByteArray) (p : Nat) (wh g : Bool) (hs : s.size ≤ 1000) (hp : p ≤ s.size) : ∃ (a b : Nat) (is : Bool), a ≤ b ∧ b ≤ s.size ∧ ∀ ww, qC 214 #[.agg #[.string s, .int .i64 p, .bool wh], .bool g] ww (.tuple #[.agg #[.int .i64 a, .int .i64 b, .bool false], .bool is]) := by
 obtain ⟨c, d, c1, c2, c3, HR1⟩ := tRun_ex s p g hs hp
 have HR1 : qH 256 #[.string s, .int .i64 p, .bool g] (.agg #[.int .i64 (c), .int .i64 (d)]) := HR1
 by_cases hcd : c = d
 ·subst hcd
  have HE : qH 185 #[.agg #[.int .i64 (c), .int .i64 (c)]] (.bool true) := fun ww => tEmpty_eq c ww
  refine ⟨0, 0, false, Nat.le_refl _, Nat.zero_le _, fun w => ?_⟩
  go_enter func214, ntmps214
  have G : Tri ((w.alloc (.cells #[.string s, .int .i64 p, .bool wh] 213)).alloc (.cells #[.int .i64 0, .int .i64 0, .bool false] 186)) w.heap.size s p wh := Tri.alloc (Tri.new _ _ _ _ _) _
  have Q : Tre ((w.alloc (.cells #[.string s, .int .i64 p, .bool wh] 213)).alloc (.cells #[.int .i64 0, .int .i64 0, .bool false] 186)) (w.heap.size + 1) 0 0 false := by have := Tre.new (w.alloc (.cells #[.string s, .int .i64 p, .bool wh] 213)) 0 0 false 186; simpa using this
  go_wp2_with fail
  refine (HR1.out _).mono ?_
  rintro r1 w1 ⟨rfl, h1⟩
  obtain ⟨hc1, hf1, hz1⟩ := qb h1
  (try simp at hz1)
  have G1 : Tri w1 (w.heap.size) (s) (p) (wh) := qTi
  have ⟨G1_0, G1_1, G1_2, G1_z, G1_l⟩ := G1
  have Q1 : Tre w1 (w.heap.size + 1) (0) (0) (false) := qTe
  have ⟨Q1_0, Q1_1, Q1_2, Q1_z, Q1_l⟩ := Q1
  clear hc1 hf1
  have E : Two (w1.alloc (.cells #[.int .i64 c, .int .i64 c] 128)) w1.heap.size c c := Two.new _ _ _ _
  go_wp2_with fail
  refine (HE.out _).mono ?_
  rintro r2 w2 ⟨rfl, h2⟩
  obtain ⟨hc2, hf2, hz2⟩ := qb h2
  (try simp at hz2)
  have G2 : Tri w2 (w.heap.size) (s) (p) (wh) := qTi
  have ⟨G2_0, G2_1, G2_2, G2_z, G2_l⟩ := G2
  have Q2 : Tre w2 (w.heap.size + 1) (0) (0) (false) := qTe
  have ⟨Q2_0, Q2_1, Q2_2, Q2_z, Q2_l⟩ := Q2
  have E2 : Two w2 (w1.heap.size) (c) (c) := qTw
  have ⟨E2_0, E2_1, E2_z, E2_l⟩ := E2
  clear hc2 hf2
  go_wp2
  exact qV (.tuple #[.agg #[.int .i64 0, .int .i64 0, .bool false], .bool false]) (by simp [results, results214, go_sem, Q2_0, Q2_1, Q2_2, Q2_z, Q2_l]) rfl
 ·have HE : qH 185 #[.agg #[.int .i64 (c), .int .i64 (d)]] (.bool false) := fun ww => tEmpty_ne c d ww hcd
  cases wh with
  | false =>
   refine ⟨c, d, true, by omega, by omega, fun w => ?_⟩
   go_enter func214, ntmps214
   have G : Tri ((w.alloc (.cells #[.string s, .int .i64 p, .bool false] 213)).alloc (.cells #[.int .i64 0, .int .i64 0, .bool false] 186)) w.heap.size s p false := Tri.alloc (Tri.new _ _ _ _ _) _
   have Q : Tre ((w.alloc (.cells #[.string s, .int .i64 p, .bool false] 213)).alloc (.cells #[.int .i64 0, .int .i64 0, .bool false] 186)) (w.heap.size + 1) 0 0 false := by have := Tre.new (w.alloc (.cells #[.string s, .int .i64 p, .bool false] 213)) 0 0 false 186; simpa using this
   go_wp2_with fail
   refine (HR1.out _).mono ?_
   rintro r1 w1 ⟨rfl, h1⟩
   obtain ⟨hc1, hf1, hz1⟩ := qb h1
   (try simp at hz1)
   have G1 : Tri w1 (w.heap.size) (s) (p) (false) := qTi
   have ⟨G1_0, G1_1, G1_2, G1_z, G1_l⟩ := G1
   have Q1 : Tre w1 (w.heap.size + 1) (0) (0) (false) := qTe
   have ⟨Q1_0, Q1_1, Q1_2, Q1_z, Q1_l⟩ := Q1
   clear hc1 hf1
   have E : Two (w1.alloc (.cells #[.int .i64 c, .int .i64 d] 128)) w1.heap.size c d := Two.new _ _ _ _
   go_wp2_with fail
   refine (HE.out _).mono ?_
   rintro r2 w2 ⟨rfl, h2⟩
   obtain ⟨hc2, hf2, hz2⟩ := qb h2
   (try simp at hz2)
   have G2 : Tri w2 (w.heap.size) (s) (p) (false) := qTi
   have ⟨G2_0, G2_1, G2_2, G2_z, G2_l⟩ := G2
   have Q2 : Tre w2 (w.heap.size + 1) (0) (0) (false) := qTe
   have ⟨Q2_0, Q2_1, Q2_2, Q2_z, Q2_l⟩ := Q2
   have E2 : Two w2 (w1.heap.size) (c) (d) := qTw
   have ⟨E2_0, E2_1, E2_z, E2_l⟩ := E2
   clear hc2 hf2
   go_wp2
   exact qV (.tuple #[.agg #[.int .i64 c, .int .i64 d, .bool false], .bool true]) (by simp [results, results214, go_sem, Q2_0, Q2_1, Q2_2, Q2_z, Q2_l]) rfl
  | true =>
   obtain ⟨B, HB⟩ := oBlanks_ex s p c d true qo c3
   cases B with
   | true =>
    have HB : qH 257 #[.agg #[.string s, .int .i64 p, .bool true], .agg #[.int .i64 (c), .int .i64 (d)]] (.bool true) := HB
    obtain ⟨a, b, is, k1, k2, HW⟩ := oBlanksW s p c d true g hs qo c3
    have HW : qH 258 #[.agg #[.string s, .int .i64 p, .bool true], .agg #[.int .i64 (c), .int .i64 (d)], .bool g] (.tuple #[.agg #[.int .i64 a, .int .i64 b, .bool false], .bool is]) := HW
    refine ⟨a, b, is, k1, k2, fun w => ?_⟩
    go_enter func214, ntmps214
    have G : Tri ((w.alloc (.cells #[.string s, .int .i64 p, .bool true] 213)).alloc (.cells #[.int .i64 0, .int .i64 0, .bool false] 186)) w.heap.size s p true := Tri.alloc (Tri.new _ _ _ _ _) _
    have Q : Tre ((w.alloc (.cells #[.string s, .int .i64 p, .bool true] 213)).alloc (.cells #[.int .i64 0, .int .i64 0, .bool false] 186)) (w.heap.size + 1) 0 0 false := by have := Tre.new (w.alloc (.cells #[.string s, .int .i64 p, .bool true] 213)) 0 0 false 186; simpa using this
    go_wp2_with fail
    refine (HR1.out _).mono ?_
    rintro r1 w1 ⟨rfl, h1⟩
    obtain ⟨hc1, hf1, hz1⟩ := qb h1
    (try simp at hz1)
    have G1 : Tri w1 (w.heap.size) (s) (p) (true) := qTi
    have ⟨G1_0, G1_1, G1_2, G1_z, G1_l⟩ := G1
    have Q1 : Tre w1 (w.heap.size + 1) (0) (0) (false) := qTe
    have ⟨Q1_0, Q1_1, Q1_2, Q1_z, Q1_l⟩ := Q1
    clear hc1 hf1
    have E : Two (w1.alloc (.cells #[.int .i64 c, .int .i64 d] 128)) w1.heap.size c d := Two.new _ _ _ _
    go_wp2_with fail
    refine (HE.out _).mono ?_
    rintro r2 w2 ⟨rfl, h2⟩
    obtain ⟨hc2, hf2, hz2⟩ := qb h2
    (try simp at hz2)
    have G2 : Tri w2 (w.heap.size) (s) (p) (true) := qTi
    have ⟨G2_0, G2_1, G2_2, G2_z, G2_l⟩ := G2
    have Q2 : Tre w2 (w.heap.size + 1) (0) (0) (false) := qTe
    have ⟨Q2_0, Q2_1, Q2_2, Q2_z, Q2_l⟩ := Q2
    have E2 : Two w2 (w1.heap.size) (c) (d) := qTw
    have ⟨E2_0, E2_1, E2_z, E2_l⟩ := E2
    clear hc2 hf2
    go_wp2_with fail
    refine (HB.out _).mono ?_
    rintro r3 w3 ⟨rfl, h3⟩
    obtain ⟨hc3, hf3, hz3⟩ := qb h3
    (try simp at hz3)
    have G3 : Tri w3 (w.heap.size) (s) (p) (true) := qTi
    have ⟨G3_0, G3_1, G3_2, G3_z, G3_l⟩ := G3
    have Q3 : Tre w3 (w.heap.size + 1) (0) (0) (false) := qTe
    have ⟨Q3_0, Q3_1, Q3_2, Q3_z, Q3_l⟩ := Q3
    have E3 : Two w3 (w1.heap.size) (c) (d) := qTw
    have ⟨E3_0, E3_1, E3_z, E3_l⟩ := E3
    clear hc3 hf3
    go_wp2_with fail
    refine (HW.out _).mono ?_
    rintro r4 w4 ⟨rfl, h4⟩
    obtain ⟨hc4, hf4, hz4⟩ := qb h4
    (try simp at hz4)
    have G4 : Tri w4 (w.heap.size) (s) (p) (true) := qTi
    have ⟨G4_0, G4_1, G4_2, G4_z, G4_l⟩ := G4
    have Q4 : Tre w4 (w.heap.size + 1) (0) (0) (false) := qTe
    have ⟨Q4_0, Q4_1, Q4_2, Q4_z, Q4_l⟩ := Q4
    have E4 : Two w4 (w1.heap.size) (c) (d) := qTw
    have ⟨E4_0, E4_1, E4_z, E4_l⟩ := E4
    clear hc4 hf4
    go_wp2
    exact qV (.tuple #[.agg #[.int .i64 a, .int .i64 b, .bool false], .bool is]) (by simp [results, results214, go_sem, Q4_0, Q4_1, Q4_2, Q4_z, Q4_l]) rfl
   | false =>
    have HB : qH 257 #[.agg #[.string s, .int .i64 p, .bool true], .agg #[.int .i64 (c), .int .i64 (d)]] (.bool false) := HB
    obtain ⟨a, b, k1, k2, HW⟩ := oWordB s p c d true g hs qo c3
    have HW : qH 259 #[.agg #[.string s, .int .i64 p, .bool true], .agg #[.int .i64 (c), .int .i64 (d)], .bool g] (.agg #[.int .i64 (a), .int .i64 (b)]) := HW
    refine ⟨a, b, true, k1, k2, fun w => ?_⟩
    go_enter func214, ntmps214
    have G : Tri ((w.alloc (.cells #[.string s, .int .i64 p, .bool true] 213)).alloc (.cells #[.int .i64 0, .int .i64 0, .bool false] 186)) w.heap.size s p true := Tri.alloc (Tri.new _ _ _ _ _) _
    have Q : Tre ((w.alloc (.cells #[.string s, .int .i64 p, .bool true] 213)).alloc (.cells #[.int .i64 0, .int .i64 0, .bool false] 186)) (w.heap.size + 1) 0 0 false := by have := Tre.new (w.alloc (.cells #[.string s, .int .i64 p, .bool true] 213)) 0 0 false 186; simpa using this
    go_wp2_with fail
    refine (HR1.out _).mono ?_
    rintro r1 w1 ⟨rfl, h1⟩
    obtain ⟨hc1, hf1, hz1⟩ := qb h1
    (try simp at hz1)
    have G1 : Tri w1 (w.heap.size) (s) (p) (true) := qTi
    have ⟨G1_0, G1_1, G1_2, G1_z, G1_l⟩ := G1
    have Q1 : Tre w1 (w.heap.size + 1) (0) (0) (false) := qTe
    have ⟨Q1_0, Q1_1, Q1_2, Q1_z, Q1_l⟩ := Q1
    clear hc1 hf1
    have E : Two (w1.alloc (.cells #[.int .i64 c, .int .i64 d] 128)) w1.heap.size c d := Two.new _ _ _ _
    go_wp2_with fail
    refine (HE.out _).mono ?_
    rintro r2 w2 ⟨rfl, h2⟩
    obtain ⟨hc2, hf2, hz2⟩ := qb h2
    (try simp at hz2)
    have G2 : Tri w2 (w.heap.size) (s) (p) (true) := qTi
    have ⟨G2_0, G2_1, G2_2, G2_z, G2_l⟩ := G2
    have Q2 : Tre w2 (w.heap.size + 1) (0) (0) (false) := qTe
    have ⟨Q2_0, Q2_1, Q2_2, Q2_z, Q2_l⟩ := Q2
    have E2 : Two w2 (w1.heap.size) (c) (d) := qTw
    have ⟨E2_0, E2_1, E2_z, E2_l⟩ := E2
    clear hc2 hf2
    go_wp2_with fail
    refine (HB.out _).mono ?_
    rintro r3 w3 ⟨rfl, h3⟩
    obtain ⟨hc3, hf3, hz3⟩ := qb h3
    (try simp at hz3)
    have G3 : Tri w3 (w.heap.size) (s) (p) (true) := qTi
    have ⟨G3_0, G3_1, G3_2, G3_z, G3_l⟩ := G3
    have Q3 : Tre w3 (w.heap.size + 1) (0) (0) (false) := qTe
    have ⟨Q3_0, Q3_1, Q3_2, Q3_z, Q3_l⟩ := Q3
    have E3 : Two w3 (w1.heap.size) (c) (d) := qTw
    have ⟨E3_0, E3_1, E3_z, E3_l⟩ := E3
    clear hc3 hf3
    go_wp2_with fail
    refine (HW.out _).mono ?_
    rintro r4 w4 ⟨rfl, h4⟩
    obtain ⟨hc4, hf4, hz4⟩ := qb h4
    (try simp at hz4)
    have G4 : Tri w4 (w.heap.size) (s) (p) (true) := qTi
    have ⟨G4_0, G4_1, G4_2, G4_z, G4_l⟩ := G4
    have Q4 : Tre w4 (w.heap.size + 1) (0) (0) (false) := qTe
    have ⟨Q4_0, Q4_1, Q4_2, Q4_z, Q4_l⟩ := Q4
    have E4 : Two w4 (w1.heap.size) (c) (d) := qTw
    have ⟨E4_0, E4_1, E4_z, E4_l⟩ := E4
    clear hc4 hf4
    go_wp2
    exact qV (.tuple #[.agg #[.int .i64 a, .int .i64 b, .bool false], .bool true]) (by simp [results, results214, go_sem, Q4_0, Q4_1, Q4_2, Q4_z, Q4_l]) rfl
theorem oWord (s : ByteArray) (p : Nat) (wh g : Bool) (hs : s.size ≤ 1000) (hp : p ≤ s.size) : GivesO 214 #[.agg #[.string s, .int .i64 p, .bool wh], .bool g] s := by
 obtain ⟨a, b, is, h1, h2, H⟩ := oWordL s p wh g hs hp
 exact ⟨a, b, false, is, h1, h2, H⟩
def lem (s : ByteArray) (m : Nat) : Bool := att s m == fin s (att s m)
def alD (s : ByteArray) (E : Bool) : Nat → Nat → Nat
 | 0, m => m
 | n + 1, m => if lem s (m + 1) = E then alD s E n (m + 1) else m
def alU (s : ByteArray) (E : Bool) : Nat → Nat
 | 0 => 0
 | m + 1 => if lem s m = E then alU s E m else m + 1
theorem alD_le (s : ByteArray) (E : Bool) : ∀ n m, m ≤ alD s E n m ∧ alD s E n m ≤ m + n := by
 intro n
 induction n with
 | zero => intro m; exact ⟨Nat.le_refl _, Nat.le_refl _⟩
 | succ n ih =>
  intro m
  simp only [alD]
  split
  ·have := ih (m + 1); omega
  ·omega
theorem alU_le (s : ByteArray) (E : Bool) : ∀ m, alU s E m ≤ m := by
 intro m
 induction m with
 | zero => exact Nat.le_refl _
 | succ m ih =>
  simp only [alU]
  split <;> omega
theorem tBesideD (s : ByteArray) (a : Int) (m : Nat) (w : World) (hs : s.size ≤ 1000) (h : m + 1 < lns s) :
  qC 223 #[.string s, .agg #[.int .i64 (a), .int .i64 (fin s (att s m))], .int .i64 1] w (.tuple #[.agg #[.int .i64 (att s (m + 1)), .int .i64 (fin s (att s (m + 1)))], .bool true]) := by
 have h1 := fin_lt_of h
 have h2 := line_down h
 have HL : qH 195 #[.string s, .int .i64 (((fin s (att s m) : Nat) : Int) + 1)] (.agg #[.int .i64 (att s (m + 1)), .int .i64 (fin s (att s (m + 1)))]) := by
  intro ww
  have := tLine_any s (((fin s (att s m) : Nat) : Int) + 1) (fin s (att s m) + 1) ww hs qo qo
  rw [h2.1, h2.2] at this
  exact this
 clear h2
 generalize att s (m + 1) = A at *
 generalize fin s A = B at *
 generalize fin s (att s m) = F at *
 go_enter func223, ntmps223
 go_wp2_with fail
 refine (HL.out _).mono ?_
 rintro e w1 ⟨rfl, h1⟩
 obtain ⟨hc1, hf1, hz1⟩ := qb h1
 try simp at hz1
 go_wp2
 exact qV (.tuple #[.agg #[.int .i64 (A), .int .i64 (B)], .bool true]) (by simp [results, results223, go_sem, hc1]) rfl
theorem fin_lastN {s : ByteArray} {m : Nat} (h : m < lns s) (h2 : ¬ m + 1 < lns s) : fin s (att s m) = s.size := fin_last qo
theorem tBes_dn (s : ByteArray) (a : Int) (y : Nat) (hs : s.size ≤ 1000) (hy : y < lns s) : ∃ (A B : Int), (y + 1 < lns s → A = att s (y + 1) ∧ B = fin s (att s (y + 1))) ∧ ∀ ww, qC 223 #[.string s, .agg #[.int .i64 (a), .int .i64 (fin s (att s y))], .int .i64 1] ww (.tuple #[.agg #[.int .i64 (A), .int .i64 (B)], .bool (decide (y + 1 < lns s))]) := by
 by_cases h : y + 1 < lns s
 ·refine ⟨_, _, fun _ => ⟨rfl, rfl⟩, fun ww => ?_⟩
  rw [decide_eq_true h]
  exact tBesideD s a y ww hs h
 ·refine ⟨0, 0, fun h2 => absurd h2 h, fun ww => ?_⟩
  rw [decide_eq_false h]
  exact tBeside_none s a _ 1 ww hs (Or.inl rfl) (fun _ => by rw [fin_lastN hy h]) (fun e => by cases e)
theorem tBes_up (s : ByteArray) (b : Int) (x : Nat) (hs : s.size ≤ 1000) (hx : x < lns s) : ∃ (A B : Int), (0 < x → A = att s (x - 1) ∧ B = fin s (att s (x - 1))) ∧ ∀ ww, qC 223 #[.string s, .agg #[.int .i64 (att s x), .int .i64 (b)], .int .i64 (-1)] ww (.tuple #[.agg #[.int .i64 (A), .int .i64 (B)], .bool (decide (0 < x))]) := by
 by_cases h : 0 < x
 ·refine ⟨_, _, fun _ => ⟨rfl, rfl⟩, fun ww => ?_⟩
  rw [decide_eq_true h]
  exact tBeside_up s _ b (-1) x ww hs rfl hx rfl h
 ·refine ⟨0, 0, fun h2 => absurd h2 h, fun ww => ?_⟩
  rw [decide_eq_false h]
  have hx0 : x = 0 := by omega
  subst hx0
  exact tBeside_none s _ b (-1) ww hs (Or.inr rfl) (fun e => by cases e) (fun _ => rfl)
theorem tEmp_line (s : ByteArray) (m : Nat) (w : World) :
  qC 185 #[.agg #[.int .i64 (att s m), .int .i64 (fin s (att s m))]] w (.bool (lem s m)) := by
 have := tIsEmpty_any (att s m) (fin s (att s m)) w
 rw [show (((att s m : Nat) : Int) == ((fin s (att s m) : Nat) : Int)) = lem s m by
  unfold lem
  by_cases e : att s m = fin s (att s m)
  ·rw [beq_iff_eq.2 e, beq_iff_eq.2 qo]
  ·rw [beq_eq_false_iff_ne.2 e, beq_eq_false_iff_ne.2 qo]] at this
 exact this
theorem att_monoO (s : ByteArray) (m : Nat) : ∀ n, att s m ≤ att s (m + n) := by
 intro n
 induction n with
 | zero => exact Nat.le_refl _
 | succ n ih =>
  have h : att s (m + (n + 1)) = fin s (att s (m + n)) + 1 := rfl
  have := fin_ge s (att s (m + n))
  omega
theorem qt43 {P : Prop} (h : P := by
  exact ⟨memLater h6 (memLater h5 (memLater ((Below.refl _ _).drew) n0)), memLater h6 (memLater h5 (memLater ((Below.refl _ _).drew) n1)), memLater h6 (memLater h5 (memLater ((Below.refl _ _).drew) l0)), memLater h6 (memLater h5 (memLater ((Below.refl _ _).drew) l1))⟩
 ) : P := h
theorem qt48 {P : Prop} (h : P := by
  exact ⟨memLater h5 (memLater ((Below.refl _ _).drew) n0), memLater h5 (memLater ((Below.refl _ _).drew) n1), memLater h5 (memLater ((Below.refl _ _).drew) l0), memLater h5 (memLater ((Below.refl _ _).drew) l1)⟩
 ) : P := h
theorem qt59 {P : Prop} (h : P := by
  exact ⟨memLater ((Below.refl _ _).drew) n0, memLater ((Below.refl _ _).drew) n1, memLater ((Below.refl _ _).drew) l0, memLater ((Below.refl _ _).drew) l1⟩
 ) : P := h
theorem oAlike (s : ByteArray) (m : Nat) (hs : s.size ≤ 1000) (hm : m < lns s) :
  ∃ x y : Nat, x ≤ m ∧ m ≤ y ∧ y < lns s ∧ ∀ ww, qC 262 #[.string s, .agg #[.int .i64 (att s m), .int .i64 (fin s (att s m))]] ww (.agg #[.int .i64 (att s x), .int .i64 (fin s (att s y))]) := by
 have hD := alD_le s (lem s m) (lns s - 1 - m) m
 have hU := alU_le s (lem s m) m
 obtain ⟨Y, hY⟩ : ∃ Y, alD s (lem s m) (lns s - 1 - m) m = Y := ⟨_, rfl⟩
 obtain ⟨X0, hX0⟩ : ∃ X0, alU s (lem s m) m = X0 := ⟨_, rfl⟩
 rw [hY] at hD
 rw [hX0] at hU
 have HY : Hid (alD s (lem s m) (lns s - 1 - m) m = Y) := hY
 have HX : Hid (alU s (lem s m) m = X0) := hX0
 clear hY hX0
 refine ⟨X0, Y, hU, hD.1, by omega, fun w => ?_⟩
 have HEm : qH 185 #[.agg #[.int .i64 (att s m), .int .i64 (fin s (att s m))]] (.bool (lem s m)) := fun ww => tEmp_line s m ww
 have hix0 : ∀ ww : World, (Instr.index 127 (.agg #[.int .i64 1, .int .i64 (-1)]) (.int .i64 0)).run Tryz.prog ww = .ok (.int .i64 1) ww := fun _ => by kernel_rfl
 have hix1 : ∀ ww : World, (Instr.index 127 (.agg #[.int .i64 1, .int .i64 (-1)]) (.int .i64 1)).run Tryz.prog ww = .ok (.int .i64 (-1)) ww := fun _ => by kernel_rfl
 go_enter func262, ntmps262
 go_wp2_with fail
 go_loopw [12] (fun iv wr => ∃ (k x y : Nat), iv = .int .i64 k ∧ ((k = 0 ∧ x = m ∧ y = m) ∨ (k = 1 ∧ x = m ∧ y = Y) ∨ (k = 2 ∧ x = X0 ∧ y = Y)) ∧ Two wr w.heap.size (att s m) (fin s (att s m)) ∧ Two wr (w.heap.size + 1) 0 0 ∧ Two wr (w.heap.size + 1 + 1) (att s x) (fin s (att s y)) ∧ Below w.heap.size w wr) (fun iv _ => 2 - (intOf iv).toNat)
 case atStart =>
  refine ⟨0, m, m, rfl, Or.inl ⟨rfl, rfl, rfl⟩, Two.alloc (Two.alloc (Two.new _ _ _ _) _) _, Two.alloc (by have := Two.new (w.alloc (.cells #[.int .i64 (att s m), .int .i64 (fin s (att s m))] 128)) 0 0 128; simpa using this) _, by have := Two.new ((w.alloc (.cells #[.int .i64 (att s m), .int .i64 (fin s (att s m))] 128)).alloc (.cells #[.int .i64 0, .int .i64 0] 128)) (att s m) (fin s (att s m)) 128; simpa using this, ?_⟩
  repeat exact qB
 case round =>
  obtain ⟨k, x, y, rfl, hkxy, L, Q, T, hB⟩ := hrel
  have zB := hB.size
  have l0 := L.c0; have l1 := L.c1; have ll := L.lt
  have ⟨q0, q1, qz, ql⟩ := Q
  have ⟨t0, t1, tz, tl⟩ := T
  rcases hkxy with ⟨ek, ex, ey⟩ | ⟨ek, ex, ey⟩ | ⟨ek, ex, ey⟩
  ·have ex := ex.symm
   have ey := ey.symm
   subst ek ex ey
   obtain ⟨A0, B0, hAB0, HB0⟩ := tBes_dn s (att s m) (m) hs hm
   have HB0 : qH 223 #[.string s, .agg #[.int .i64 (att s m), .int .i64 (fin s (att s (m)))], .int .i64 1] (.tuple #[.agg #[.int .i64 (A0), .int .i64 (B0)], .bool (decide (m + 1 < lns s))]) := HB0
   go_wp2_with fail
   refine (HB0.out _).mono ?_
   rintro r4 w4 ⟨rfl, h4⟩
   obtain ⟨hc4, hf4, hz4⟩ := qb h4
   (try simp at hz4)
   have L4 : Two w4 (w.heap.size) (att s m) (fin s (att s m)) := qTw
   have ⟨L4_0, L4_1, L4_z, L4_l⟩ := L4
   have Q4 : Two w4 (w.heap.size + 1) (0) (0) := qTw
   have ⟨Q4_0, Q4_1, Q4_z, Q4_l⟩ := Q4
   have T4 : Two w4 (w.heap.size + 1 + 1) (att s m) (fin s (att s (m))) := qTw
   have ⟨T4_0, T4_1, T4_z, T4_l⟩ := T4
   clear hc4 hf4
   have U4 : Below w.heap.size w w4 := by
    repeat exact qB
   go_wp2_with fail
   have N5 : Two (w4.alloc (.cells #[.int .i64 A0, .int .i64 B0] 128)) w4.heap.size A0 B0 := Two.new _ _ _ _
   have L5 := L4.alloc (.cells #[.int .i64 A0, .int .i64 B0] 128)
   have Q5 := Q4.alloc (.cells #[.int .i64 A0, .int .i64 B0] 128)
   have T5 := T4.alloc (.cells #[.int .i64 A0, .int .i64 B0] 128)
   have z4 := U4.size
   have U5 : Below w.heap.size w (w4.alloc (.cells #[.int .i64 A0, .int .i64 B0] 128)) := by
    repeat exact qB
   have ln4 : w.heap.size + 1 + 1 < w4.heap.size := T4.lt
   clear L4 Q4 T4 L4_0 L4_1 L4_z L4_l Q4_0 Q4_1 Q4_z Q4_l T4_0 T4_1 T4_z T4_l h4 U4 HB0 L Q T l0 l1 ll q0 q1 qz ql t0 t1 tz tl hB zB
   generalize (w4.alloc (.cells #[.int .i64 A0, .int .i64 B0] 128)) = W5 at *
   generalize w4.heap.size = nb at *
   go_loopg [9] (lns s - 1 - (m)) (fun g iv wx => ∃ (y : Nat) (A B : Int), m ≤ y ∧ y < lns s ∧ g = lns s - 1 - (y) ∧ (y + 1 < lns s → A = att s (y + 1) ∧ B = fin s (att s (y + 1))) ∧ iv = .bool (decide (y + 1 < lns s)) ∧ Hid (alD s (lem s m) (lns s - 1 - (y)) (y) = Y) ∧ Two wx w.heap.size (att s m) (fin s (att s m)) ∧ Two wx (w.heap.size + 1) 0 0 ∧ Two wx (w.heap.size + 1 + 1) (att s m) (fin s (att s (y))) ∧ Two wx nb A B ∧ Below w.heap.size w wx)
   case atStart => exact ⟨m, A0, B0, Nat.le_refl _, hm, rfl, hAB0, rfl, HY, L5, Q5, T5, N5, U5⟩
   case round =>
    clear N5 L5 Q5 T5 U5 HY hAB0
    obtain ⟨y, A, B, hy1, hy2, hg, hAB, rfl, HF, L, Q, T, N, hB⟩ := hrel
    have zB := hB.size
    have l0 := L.c0; have l1 := L.c1; have ll := L.lt
    have ⟨q0, q1, qz, ql⟩ := Q
    have ⟨t0, t1, tz, tl⟩ := T
    have ⟨n0, n1, nz, nl⟩ := N
    by_cases hc : y + 1 < lns s
    ·rw [decide_eq_true hc]
     obtain ⟨eA, eB⟩ := hAB hc
     subst eA eB
     have hEn := fun ww => tEmp_line s (y + 1) ww
     by_cases hE : lem s (y + 1) = lem s m
     ·rw [hE] at hEn
      have HEn : qH 185 #[.agg #[.int .i64 (att s (y + 1)), .int .i64 (fin s (att s (y + 1)))]] (.bool (lem s m)) := hEn
      have HF2 : Hid (alD s (lem s m) (lns s - 1 - (y + 1)) (y + 1) = Y) := by
       have := HF.out
       rw [show lns s - 1 - y = (lns s - 1 - (y + 1)) + 1 by omega] at this
       simp only [alD] at this
       rw [if_pos hE] at this
       exact this
      have m1 := att_monoO s (m) (y + 1 - m)
      rw [show m + (y + 1 - m) = y + 1 by omega] at m1
      have m2 : fin s (att s y) ≤ fin s (att s (y + 1)) := by
       have e : att s (y + 1) = fin s (att s y) + 1 := rfl
       have := fin_ge s (att s (y + 1))
       omega
      have HJ : qH 196 #[.agg #[.int .i64 (att s m), .int .i64 (fin s (att s (y)))], .agg #[.int .i64 (att s (y + 1)), .int .i64 (fin s (att s (y + 1)))]] (.agg #[.int .i64 (att s m), .int .i64 (fin s (att s (y + 1)))]) := by
       intro ww
       have := tJoin_nat (att s m) (fin s (att s (y))) (att s (y + 1)) (fin s (att s (y + 1))) ww
       rw [show min (att s m) (att s (y + 1)) = att s m by omega, show max (fin s (att s (y))) (fin s (att s (y + 1))) = fin s (att s (y + 1)) by omega] at this
       exact this
      obtain ⟨A2, B2, hAB2, HB2⟩ := tBes_dn s (att s m) (y + 1) hs hc
      have HB2 : qH 223 #[.string s, .agg #[.int .i64 (att s m), .int .i64 (fin s (att s (y + 1)))], .int .i64 1] (.tuple #[.agg #[.int .i64 (A2), .int .i64 (B2)], .bool (decide ((y + 1) + 1 < lns s))]) := HB2
      clear m1 m2 hE hAB HF
      go_wp2_with fail
      refine wp_region_held_drew (S := fun ww => ww.cell? ⟨nb, 0, none⟩ = some (.int .i64 (att s (y + 1))) ∧ ww.cell? ⟨nb, 1, none⟩ = some (.int .i64 (fin s (att s (y + 1)))) ∧ ww.cell? ⟨w.heap.size, 0, none⟩ = some (.int .i64 (att s m)) ∧ ww.cell? ⟨w.heap.size, 1, none⟩ = some (.int .i64 (fin s (att s m)))) qk ?_ (fun hHeld => ?_)
      ·exact qt59
      refine qT 0 ?_
      simp only [Act.put, qP]
      refine qT 1 ?_
      simp only [Act.put, qP]
      refine qT 2 ?_
      simp only [Act.put, qP]
      refine qT 4 ?_
      simp only [Act.put, qP]
      refine qR 3 fun K hK => ?_
      rw [if_pos (by rfl)]
      go_wp2_with fail
      refine (HEn.out _).mono ?_
      rintro r5 w5 ⟨rfl, h5⟩
      obtain ⟨hc5, hf5, hz5⟩ := qb h5
      (try simp at hz5)
      go_wp2_with fail
      refine hK.out _ _ ?_ (fun hHeld => ?_)
      ·exact qt48
      clear hK K
      try simp only [Act.put, qP]
      clear hc5 hf5
      refine qR 5 fun K hK => ?_
      rw [if_pos (by rfl)]
      go_wp2_with fail
      refine (HEm.out _).mono ?_
      rintro r6 w6 ⟨rfl, h6⟩
      obtain ⟨hc6, hf6, hz6⟩ := qb h6
      (try simp at hz6)
      go_wp2_with fail
      refine hK.out _ _ ?_ (fun hHeld => ?_)
      ·exact qt43
      clear hK K
      try simp only [Act.put, qP]
      clear hc6 hf6
      refine qT 6 ?_
      simp only [Act.put, qP]
      refine qT 7 ?_
      simp only [Act.put, qP]
      refine wpAnyH_done qk ?_ _
      have hB6 : Below w.heap.size w w6 := by
       repeat exact qB
      have z6 := hB6.size
      have L6 := ((L.drew).below h5).below h6
      have Q6 := ((Q.drew).below h5).below h6
      have T6 := ((T.drew).below h5).below h6
      have N6 := ((N.drew).below h5).below h6
      clear L Q T N l0 l1 ll q0 q1 qz ql t0 t1 tz tl n0 n1 nz nl hB zB h5 h6
      have ⟨q0, q1, qz, ql⟩ := Q6
      have ⟨t0, t1, tz, tl⟩ := T6
      have ⟨n0, n1, nz, nl⟩ := N6
      go_wp2_with fail
      refine (HJ.out _).mono ?_
      rintro e w7 ⟨rfl, h7⟩
      obtain ⟨hc7, hf7, hz7⟩ := qb h7
      try simp at hz7
      have L7 := L6.below h7; have Q7 := Q6.below h7; have T7 := T6.below h7; have N7 := N6.below h7
      have z7 := h7.size
      clear hc7 hf7 L6 Q6 T6 N6 q0 q1 qz ql t0 t1 tz tl n0 n1 nz nl
      have ⟨t0, t1, tz, tl⟩ := T7
      have ⟨n0, n1, nz, nl⟩ := N7
      have hB7 : Below w.heap.size w w7 := by
       repeat exact qB
      have T8 : Two ((w7.setCell ⟨w.heap.size + 1 + 1, 0, none⟩ (.int .i64 (att s m))).setCell ⟨w.heap.size + 1 + 1, 1, none⟩ (.int .i64 (fin s (att s (y + 1))))) (w.heap.size + 1 + 1) (att s m) (fin s (att s (y + 1))) := Two.set1 (Two.set0 T7 _) _
      have L8 : Two ((w7.setCell ⟨w.heap.size + 1 + 1, 0, none⟩ (.int .i64 (att s m))).setCell ⟨w.heap.size + 1 + 1, 1, none⟩ (.int .i64 (fin s (att s (y + 1))))) w.heap.size (att s m) (fin s (att s m)) := Two.other (Two.other L7 qf _) qf _
      have Q8 : Two ((w7.setCell ⟨w.heap.size + 1 + 1, 0, none⟩ (.int .i64 (att s m))).setCell ⟨w.heap.size + 1 + 1, 1, none⟩ (.int .i64 (fin s (att s (y + 1))))) (w.heap.size + 1) 0 0 := Two.other (Two.other Q7 qf _) qf _
      have N8 : Two ((w7.setCell ⟨w.heap.size + 1 + 1, 0, none⟩ (.int .i64 (att s m))).setCell ⟨w.heap.size + 1 + 1, 1, none⟩ (.int .i64 (fin s (att s (y + 1))))) nb (att s (y + 1)) (fin s (att s (y + 1))) := Two.other (Two.other N7 qf _) qf _
      have hB8 : Below w.heap.size w ((w7.setCell ⟨w.heap.size + 1 + 1, 0, none⟩ (.int .i64 (att s m))).setCell ⟨w.heap.size + 1 + 1, 1, none⟩ (.int .i64 (fin s (att s (y + 1))))) := Below.setCell (Below.setCell hB7 qf _) qf _
      have x0 := T8.c0; have x1 := T8.c1
      go_wp2_with fail
      refine (HB2.out _).mono ?_
      rintro e w9 ⟨rfl, h9⟩
      obtain ⟨hc9, hf9, hz9⟩ := qb h9
      try simp at hz9
      have L9 := L8.below h9; have Q9 := Q8.below h9; have T9 := T8.below h9; have N9 := N8.below h9
      have hB9 : Below w.heap.size w w9 := hB8.trans (h9.mono hB8.size)
      have ⟨m0, m1, mz, ml⟩ := N9
      clear hc9 hf9
      go_wp2
      go_roundg (lns s - 1 - (y + 1))
      case measure => omega
      case rel => exact ⟨y + 1, A2, B2, by omega, hc, rfl, hAB2, rfl, HF2, Two.other (Two.other L9 qf _) qf _, Two.other (Two.other Q9 qf _) qf _, Two.other (Two.other T9 qf _) qf _, Two.set1 (Two.set0 N9 _) _, Below.setCell (Below.setCell hB9 qf _) qf _⟩
     ·have HEn : qH 185 #[.agg #[.int .i64 (att s (y + 1)), .int .i64 (fin s (att s (y + 1)))]] (.bool (lem s (y + 1))) := hEn
      have eY : Hid (y = Y) := by
       have := HF.out
       rw [show lns s - 1 - y = (lns s - 1 - (y + 1)) + 1 by omega] at this
       simp only [alD] at this
       rw [if_neg hE] at this
       exact this
      have hE2 : (lem s (y + 1) == lem s m) = false := by simp [hE]
      generalize lem s (y + 1) = e1 at *
      have HEm2 := HEm
      generalize lem s m = e2 at *
      clear HF
      go_wp2_with fail
      refine wp_region_held_drew (S := fun ww => ww.cell? ⟨nb, 0, none⟩ = some (.int .i64 (att s (y + 1))) ∧ ww.cell? ⟨nb, 1, none⟩ = some (.int .i64 (fin s (att s (y + 1)))) ∧ ww.cell? ⟨w.heap.size, 0, none⟩ = some (.int .i64 (att s m)) ∧ ww.cell? ⟨w.heap.size, 1, none⟩ = some (.int .i64 (fin s (att s m)))) qk ?_ (fun hHeld => ?_)
      ·exact qt59
      refine qT 0 ?_
      simp only [Act.put, qP]
      refine qT 1 ?_
      simp only [Act.put, qP]
      refine qT 2 ?_
      simp only [Act.put, qP]
      refine qT 4 ?_
      simp only [Act.put, qP]
      refine qR 3 fun K hK => ?_
      rw [if_pos (by rfl)]
      go_wp2_with fail
      refine (HEn.out _).mono ?_
      rintro r5 w5 ⟨rfl, h5⟩
      obtain ⟨hc5, hf5, hz5⟩ := qb h5
      (try simp at hz5)
      go_wp2_with fail
      refine hK.out _ _ ?_ (fun hHeld => ?_)
      ·exact qt48
      clear hK K
      try simp only [Act.put, qP]
      clear hc5 hf5
      refine qR 5 fun K hK => ?_
      rw [if_pos (by rfl)]
      go_wp2_with fail
      refine (HEm.out _).mono ?_
      rintro r6 w6 ⟨rfl, h6⟩
      obtain ⟨hc6, hf6, hz6⟩ := qb h6
      (try simp at hz6)
      go_wp2_with fail
      refine hK.out _ _ ?_ (fun hHeld => ?_)
      ·exact qt43
      clear hK K
      try simp only [Act.put, qP]
      clear hc6 hf6
      refine qT 6 ?_
      simp only [Act.put, qP]
      refine qT 7 ?_
      simp only [Act.put, qP]
      refine wpAnyH_done qk ?_ _
      have hB6 : Below w.heap.size w w6 := by
       repeat exact qB
      have z6 := hB6.size
      have L6 := ((L.drew).below h5).below h6
      have Q6 := ((Q.drew).below h5).below h6
      have T6 := ((T.drew).below h5).below h6
      have N6 := ((N.drew).below h5).below h6
      clear L Q T N l0 l1 ll q0 q1 qz ql t0 t1 tz tl n0 n1 nz nl hB zB h5 h6
      have ⟨q0, q1, qz, ql⟩ := Q6
      have ⟨t0, t1, tz, tl⟩ := T6
      have ⟨n0, n1, nz, nl⟩ := N6
      have eY := eY.out
      subst eY
      go_wp2
      go_round
      case rel => exact ⟨1, m, y, by go_num, Or.inr (Or.inl ⟨rfl, rfl, rfl⟩), L6, Q6, T6, hB6⟩
      case measure => simp [intOf] <;> omega
    ·rw [decide_eq_false hc]
     have eY : y = Y := by
      have := HF.out
      rw [show lns s - 1 - y = 0 by omega] at this
      exact this
     subst eY
     go_wp2_with fail
     refine wp_region_held_drew (S := fun ww => ww.cell? ⟨w.heap.size, 0, none⟩ = some (.int .i64 (att s m))) qk ?_ (fun hHeld => ?_)
     ·exact memLater ((Below.refl _ _).drew) l0
     refine qT 0 ?_
     simp only [Act.put, qP]
     refine qT 1 ?_
     simp only [Act.put, qP]
     refine qS 2 ?_
     simp only [Act.put, qP]
     refine qS 3 ?_
     simp only [Act.put, qP]
     refine qS 4 ?_
     simp only [Act.put, qP]
     refine qS 5 ?_
     simp only [Act.put, qP]
     refine qS 6 ?_
     simp only [Act.put, qP]
     refine qT 7 ?_
     simp only [Act.put, qP]
     refine wpAnyH_done qk ?_ _
     go_wp2
     go_round
     case rel => exact ⟨1, m, y, by go_num, Or.inr (Or.inl ⟨rfl, rfl, rfl⟩), L.drew, Q.drew, T.drew, hB.drew⟩
     case measure => simp [intOf] <;> omega
  ·have ex := ex.symm
   have ey := ey.symm
   subst ek ex ey
   obtain ⟨A0, B0, hAB0, HB0⟩ := tBes_up s (fin s (att s Y)) (m) hs hm
   have HB0 : qH 223 #[.string s, .agg #[.int .i64 (att s (m)), .int .i64 (fin s (att s Y))], .int .i64 (-1)] (.tuple #[.agg #[.int .i64 (A0), .int .i64 (B0)], .bool (decide (0 < m))]) := HB0
   go_wp2_with fail
   refine (HB0.out _).mono ?_
   rintro r4 w4 ⟨rfl, h4⟩
   obtain ⟨hc4, hf4, hz4⟩ := qb h4
   (try simp at hz4)
   have L4 : Two w4 (w.heap.size) (att s m) (fin s (att s m)) := qTw
   have ⟨L4_0, L4_1, L4_z, L4_l⟩ := L4
   have Q4 : Two w4 (w.heap.size + 1) (0) (0) := qTw
   have ⟨Q4_0, Q4_1, Q4_z, Q4_l⟩ := Q4
   have T4 : Two w4 (w.heap.size + 1 + 1) (att s (m)) (fin s (att s Y)) := qTw
   have ⟨T4_0, T4_1, T4_z, T4_l⟩ := T4
   clear hc4 hf4
   have U4 : Below w.heap.size w w4 := by
    repeat exact qB
   go_wp2_with fail
   have N5 : Two (w4.alloc (.cells #[.int .i64 A0, .int .i64 B0] 128)) w4.heap.size A0 B0 := Two.new _ _ _ _
   have L5 := L4.alloc (.cells #[.int .i64 A0, .int .i64 B0] 128)
   have Q5 := Q4.alloc (.cells #[.int .i64 A0, .int .i64 B0] 128)
   have T5 := T4.alloc (.cells #[.int .i64 A0, .int .i64 B0] 128)
   have z4 := U4.size
   have U5 : Below w.heap.size w (w4.alloc (.cells #[.int .i64 A0, .int .i64 B0] 128)) := by
    repeat exact qB
   have ln4 : w.heap.size + 1 + 1 < w4.heap.size := T4.lt
   clear L4 Q4 T4 L4_0 L4_1 L4_z L4_l Q4_0 Q4_1 Q4_z Q4_l T4_0 T4_1 T4_z T4_l h4 U4 HB0 L Q T l0 l1 ll q0 q1 qz ql t0 t1 tz tl hB zB
   generalize (w4.alloc (.cells #[.int .i64 A0, .int .i64 B0] 128)) = W5 at *
   generalize w4.heap.size = nb at *
   go_loopg [9] (m) (fun g iv wx => ∃ (x : Nat) (A B : Int), x ≤ m ∧ g = x ∧ (0 < x → A = att s (x - 1) ∧ B = fin s (att s (x - 1))) ∧ iv = .bool (decide (0 < x)) ∧ Hid (alU s (lem s m) (x) = X0) ∧ Two wx w.heap.size (att s m) (fin s (att s m)) ∧ Two wx (w.heap.size + 1) 0 0 ∧ Two wx (w.heap.size + 1 + 1) (att s (x)) (fin s (att s Y)) ∧ Two wx nb A B ∧ Below w.heap.size w wx)
   case atStart => exact ⟨m, A0, B0, Nat.le_refl _, rfl, hAB0, rfl, HX, L5, Q5, T5, N5, U5⟩
   case round =>
    clear N5 L5 Q5 T5 U5 HX hAB0
    obtain ⟨x, A, B, hy1, hg, hAB, rfl, HF, L, Q, T, N, hB⟩ := hrel
    have zB := hB.size
    have l0 := L.c0; have l1 := L.c1; have ll := L.lt
    have ⟨q0, q1, qz, ql⟩ := Q
    have ⟨t0, t1, tz, tl⟩ := T
    have ⟨n0, n1, nz, nl⟩ := N
    by_cases hc : 0 < x
    ·rw [decide_eq_true hc]
     obtain ⟨eA, eB⟩ := hAB hc
     subst eA eB
     have hEn := fun ww => tEmp_line s (x - 1) ww
     by_cases hE : lem s (x - 1) = lem s m
     ·rw [hE] at hEn
      have HEn : qH 185 #[.agg #[.int .i64 (att s (x - 1)), .int .i64 (fin s (att s (x - 1)))]] (.bool (lem s m)) := hEn
      have HF2 : Hid (alU s (lem s m) (x - 1) = X0) := by
       have := HF.out
       rw [show x = (x - 1) + 1 by omega] at this
       simp only [alU] at this
       rw [if_pos hE] at this
       exact this
      have m1 := att_monoO s (x - 1) (1)
      rw [show x - 1 + 1 = x by omega] at m1
      have m2 : fin s (att s (x - 1)) ≤ fin s (att s Y) := by
       have e : att s (x - 1 + 1) = fin s (att s (x - 1)) + 1 := rfl
       have k1 := att_monoO s (x - 1 + 1) (Y - (x - 1 + 1))
       rw [show x - 1 + 1 + (Y - (x - 1 + 1)) = Y by omega] at k1
       have := fin_ge s (att s Y)
       omega
      have HJ : qH 196 #[.agg #[.int .i64 (att s (x)), .int .i64 (fin s (att s Y))], .agg #[.int .i64 (att s (x - 1)), .int .i64 (fin s (att s (x - 1)))]] (.agg #[.int .i64 (att s (x - 1)), .int .i64 (fin s (att s Y))]) := by
       intro ww
       have := tJoin_nat (att s (x)) (fin s (att s Y)) (att s (x - 1)) (fin s (att s (x - 1))) ww
       rw [show min (att s (x)) (att s (x - 1)) = att s (x - 1) by omega, show max (fin s (att s Y)) (fin s (att s (x - 1))) = fin s (att s Y) by omega] at this
       exact this
      obtain ⟨A2, B2, hAB2, HB2⟩ := tBes_up s (fin s (att s Y)) (x - 1) hs qo
      have HB2 : qH 223 #[.string s, .agg #[.int .i64 (att s (x - 1)), .int .i64 (fin s (att s Y))], .int .i64 (-1)] (.tuple #[.agg #[.int .i64 (A2), .int .i64 (B2)], .bool (decide (0 < (x - 1)))]) := HB2
      clear m1 m2 hE hAB HF
      go_wp2_with fail
      refine wp_region_held_drew (S := fun ww => ww.cell? ⟨nb, 0, none⟩ = some (.int .i64 (att s (x - 1))) ∧ ww.cell? ⟨nb, 1, none⟩ = some (.int .i64 (fin s (att s (x - 1)))) ∧ ww.cell? ⟨w.heap.size, 0, none⟩ = some (.int .i64 (att s m)) ∧ ww.cell? ⟨w.heap.size, 1, none⟩ = some (.int .i64 (fin s (att s m)))) qk ?_ (fun hHeld => ?_)
      ·exact qt59
      refine qT 0 ?_
      simp only [Act.put, qP]
      refine qT 1 ?_
      simp only [Act.put, qP]
      refine qT 2 ?_
      simp only [Act.put, qP]
      refine qT 4 ?_
      simp only [Act.put, qP]
      refine qR 3 fun K hK => ?_
      rw [if_pos (by rfl)]
      go_wp2_with fail
      refine (HEn.out _).mono ?_
      rintro r5 w5 ⟨rfl, h5⟩
      obtain ⟨hc5, hf5, hz5⟩ := qb h5
      (try simp at hz5)
      go_wp2_with fail
      refine hK.out _ _ ?_ (fun hHeld => ?_)
      ·exact qt48
      clear hK K
      try simp only [Act.put, qP]
      clear hc5 hf5
      refine qR 5 fun K hK => ?_
      rw [if_pos (by rfl)]
      go_wp2_with fail
      refine (HEm.out _).mono ?_
      rintro r6 w6 ⟨rfl, h6⟩
      obtain ⟨hc6, hf6, hz6⟩ := qb h6
      (try simp at hz6)
      go_wp2_with fail
      refine hK.out _ _ ?_ (fun hHeld => ?_)
      ·exact qt43
      clear hK K
      try simp only [Act.put, qP]
      clear hc6 hf6
      refine qT 6 ?_
      simp only [Act.put, qP]
      refine qT 7 ?_
      simp only [Act.put, qP]
      refine wpAnyH_done qk ?_ _
      have hB6 : Below w.heap.size w w6 := by
       repeat exact qB
      have z6 := hB6.size
      have L6 := ((L.drew).below h5).below h6
      have Q6 := ((Q.drew).below h5).below h6
      have T6 := ((T.drew).below h5).below h6
      have N6 := ((N.drew).below h5).below h6
      clear L Q T N l0 l1 ll q0 q1 qz ql t0 t1 tz tl n0 n1 nz nl hB zB h5 h6
      have ⟨q0, q1, qz, ql⟩ := Q6
      have ⟨t0, t1, tz, tl⟩ := T6
      have ⟨n0, n1, nz, nl⟩ := N6
      go_wp2_with fail
      refine (HJ.out _).mono ?_
      rintro e w7 ⟨rfl, h7⟩
      obtain ⟨hc7, hf7, hz7⟩ := qb h7
      try simp at hz7
      have L7 := L6.below h7; have Q7 := Q6.below h7; have T7 := T6.below h7; have N7 := N6.below h7
      have z7 := h7.size
      clear hc7 hf7 L6 Q6 T6 N6 q0 q1 qz ql t0 t1 tz tl n0 n1 nz nl
      have ⟨t0, t1, tz, tl⟩ := T7
      have ⟨n0, n1, nz, nl⟩ := N7
      have hB7 : Below w.heap.size w w7 := by
       repeat exact qB
      have T8 : Two ((w7.setCell ⟨w.heap.size + 1 + 1, 0, none⟩ (.int .i64 (att s (x - 1)))).setCell ⟨w.heap.size + 1 + 1, 1, none⟩ (.int .i64 (fin s (att s Y)))) (w.heap.size + 1 + 1) (att s (x - 1)) (fin s (att s Y)) := Two.set1 (Two.set0 T7 _) _
      have L8 : Two ((w7.setCell ⟨w.heap.size + 1 + 1, 0, none⟩ (.int .i64 (att s (x - 1)))).setCell ⟨w.heap.size + 1 + 1, 1, none⟩ (.int .i64 (fin s (att s Y)))) w.heap.size (att s m) (fin s (att s m)) := Two.other (Two.other L7 qf _) qf _
      have Q8 : Two ((w7.setCell ⟨w.heap.size + 1 + 1, 0, none⟩ (.int .i64 (att s (x - 1)))).setCell ⟨w.heap.size + 1 + 1, 1, none⟩ (.int .i64 (fin s (att s Y)))) (w.heap.size + 1) 0 0 := Two.other (Two.other Q7 qf _) qf _
      have N8 : Two ((w7.setCell ⟨w.heap.size + 1 + 1, 0, none⟩ (.int .i64 (att s (x - 1)))).setCell ⟨w.heap.size + 1 + 1, 1, none⟩ (.int .i64 (fin s (att s Y)))) nb (att s (x - 1)) (fin s (att s (x - 1))) := Two.other (Two.other N7 qf _) qf _
      have hB8 : Below w.heap.size w ((w7.setCell ⟨w.heap.size + 1 + 1, 0, none⟩ (.int .i64 (att s (x - 1)))).setCell ⟨w.heap.size + 1 + 1, 1, none⟩ (.int .i64 (fin s (att s Y)))) := Below.setCell (Below.setCell hB7 qf _) qf _
      have x0 := T8.c0; have x1 := T8.c1
      go_wp2_with fail
      refine (HB2.out _).mono ?_
      rintro e w9 ⟨rfl, h9⟩
      obtain ⟨hc9, hf9, hz9⟩ := qb h9
      try simp at hz9
      have L9 := L8.below h9; have Q9 := Q8.below h9; have T9 := T8.below h9; have N9 := N8.below h9
      have hB9 : Below w.heap.size w w9 := hB8.trans (h9.mono hB8.size)
      have ⟨m0, m1, mz, ml⟩ := N9
      clear hc9 hf9
      go_wp2
      go_roundg (x - 1)
      case measure => omega
      case rel => exact ⟨x - 1, A2, B2, by omega, rfl, hAB2, rfl, HF2, Two.other (Two.other L9 qf _) qf _, Two.other (Two.other Q9 qf _) qf _, Two.other (Two.other T9 qf _) qf _, Two.set1 (Two.set0 N9 _) _, Below.setCell (Below.setCell hB9 qf _) qf _⟩
     ·have HEn : qH 185 #[.agg #[.int .i64 (att s (x - 1)), .int .i64 (fin s (att s (x - 1)))]] (.bool (lem s (x - 1))) := hEn
      have eY : Hid (x = X0) := by
       have := HF.out
       rw [show x = (x - 1) + 1 by omega] at this
       simp only [alU] at this
       rw [if_neg hE] at this
       rw [Hid]
       omega
      have hE2 : (lem s (x - 1) == lem s m) = false := by simp [hE]
      generalize lem s (x - 1) = e1 at *
      have HEm2 := HEm
      generalize lem s m = e2 at *
      clear HF
      go_wp2_with fail
      refine wp_region_held_drew (S := fun ww => ww.cell? ⟨nb, 0, none⟩ = some (.int .i64 (att s (x - 1))) ∧ ww.cell? ⟨nb, 1, none⟩ = some (.int .i64 (fin s (att s (x - 1)))) ∧ ww.cell? ⟨w.heap.size, 0, none⟩ = some (.int .i64 (att s m)) ∧ ww.cell? ⟨w.heap.size, 1, none⟩ = some (.int .i64 (fin s (att s m)))) qk ?_ (fun hHeld => ?_)
      ·exact qt59
      refine qT 0 ?_
      simp only [Act.put, qP]
      refine qT 1 ?_
      simp only [Act.put, qP]
      refine qT 2 ?_
      simp only [Act.put, qP]
      refine qT 4 ?_
      simp only [Act.put, qP]
      refine qR 3 fun K hK => ?_
      rw [if_pos (by rfl)]
      go_wp2_with fail
      refine (HEn.out _).mono ?_
      rintro r5 w5 ⟨rfl, h5⟩
      obtain ⟨hc5, hf5, hz5⟩ := qb h5
      (try simp at hz5)
      go_wp2_with fail
      refine hK.out _ _ ?_ (fun hHeld => ?_)
      ·exact qt48
      clear hK K
      try simp only [Act.put, qP]
      clear hc5 hf5
      refine qR 5 fun K hK => ?_
      rw [if_pos (by rfl)]
      go_wp2_with fail
      refine (HEm.out _).mono ?_
      rintro r6 w6 ⟨rfl, h6⟩
      obtain ⟨hc6, hf6, hz6⟩ := qb h6
      (try simp at hz6)
      go_wp2_with fail
      refine hK.out _ _ ?_ (fun hHeld => ?_)
      ·exact qt43
      clear hK K
      try simp only [Act.put, qP]
      clear hc6 hf6
      refine qT 6 ?_
      simp only [Act.put, qP]
      refine qT 7 ?_
      simp only [Act.put, qP]
      refine wpAnyH_done qk ?_ _
      have hB6 : Below w.heap.size w w6 := by
       repeat exact qB
      have z6 := hB6.size
      have L6 := ((L.drew).below h5).below h6
      have Q6 := ((Q.drew).below h5).below h6
      have T6 := ((T.drew).below h5).below h6
      have N6 := ((N.drew).below h5).below h6
      clear L Q T N l0 l1 ll q0 q1 qz ql t0 t1 tz tl n0 n1 nz nl hB zB h5 h6
      have ⟨q0, q1, qz, ql⟩ := Q6
      have ⟨t0, t1, tz, tl⟩ := T6
      have ⟨n0, n1, nz, nl⟩ := N6
      have eY := eY.out
      subst eY
      go_wp2
      go_round
      case rel => exact ⟨2, x, Y, by go_num, Or.inr (Or.inr ⟨rfl, rfl, rfl⟩), L6, Q6, T6, hB6⟩
      case measure => simp [intOf] <;> omega
    ·rw [decide_eq_false hc]
     have eY : x = X0 := by
      have := HF.out
      rw [show x = 0 by omega] at this
      rw [show x = 0 by omega]
      exact this
     subst eY
     go_wp2_with fail
     refine wp_region_held_drew (S := fun ww => ww.cell? ⟨w.heap.size, 0, none⟩ = some (.int .i64 (att s m))) qk ?_ (fun hHeld => ?_)
     ·exact memLater ((Below.refl _ _).drew) l0
     refine qT 0 ?_
     simp only [Act.put, qP]
     refine qT 1 ?_
     simp only [Act.put, qP]
     refine qS 2 ?_
     simp only [Act.put, qP]
     refine qS 3 ?_
     simp only [Act.put, qP]
     refine qS 4 ?_
     simp only [Act.put, qP]
     refine qS 5 ?_
     simp only [Act.put, qP]
     refine qS 6 ?_
     simp only [Act.put, qP]
     refine qT 7 ?_
     simp only [Act.put, qP]
     refine wpAnyH_done qk ?_ _
     go_wp2
     go_round
     case rel => exact ⟨2, x, Y, by go_num, Or.inr (Or.inr ⟨rfl, rfl, rfl⟩), L.drew, Q.drew, T.drew, hB.drew⟩
     case measure => simp [intOf] <;> omega
  ·have ex := ex.symm
   have ey := ey.symm
   subst ek ex ey
   go_wp2
   exact qV (.agg #[.int .i64 (att s X0), .int .i64 (fin s (att s Y))]) (by simp [results, results262, go_sem, q0, q1, qz, ql]) rfl
