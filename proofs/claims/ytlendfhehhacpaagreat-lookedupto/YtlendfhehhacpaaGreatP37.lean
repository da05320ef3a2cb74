/- Joined of the texts TextO, ModesW. -/
import Derived.Test.YtlendfhehhacpaaGreatP06
import Derived.Test.YtlendfhehhacpaaGreatP36
import Derived.Test.YtlendfhehhacpaaGreatP07
set_option linter.unusedVariables false
set_option linter.unusedSimpArgs false
set_option maxRecDepth 100000
set_option maxHeartbeats 8000000
namespace Go.Proofs.YtlendfhehhacpaaGreat
open Go.RowKit
theorem tOf_any (s : ByteArray) (a b : Int) (i j : Nat) (w : World) (hs : s.size ≤ 1000) (ea : a = i) (eb : b = j) (h : i ≤ j) (hj : j ≤ s.size) :
    Calls Tryz.prog 87 #[.string s, .agg #[.int .i64 (a), .int .i64 (b)]] w fun e w' => e = .returned (.string (s.extract i j)) ∧ Below w.heap.size w w' := by
  subst ea eb
  go_enter Tryz.func87, Tryz.ntmps87
  go_wp2
  refine bodyPost_ret (v := .string (s.extract i j)) (by simp [results, Tryz.results87, go_sem]) rfl ⟨rfl, ?_⟩
  repeat (with_reducible first | exact Below.refl _ _ | refine b_s ?_ _ | refine b_a ?_ _ | refine Below.drew ?_ | refine below_drewN ?_ _)
theorem tWith_any (s t : ByteArray) (a b : Int) (i j : Nat) (w : World) (hs : s.size ≤ 1000) (ht : t.size ≤ 1000000) (ea : a = i) (eb : b = j) (h : i ≤ j) (hj : j ≤ s.size) :
    Calls Tryz.prog 192 #[.string s, .agg #[.int .i64 (a), .int .i64 (b)], .string t] w fun e w' => e = .returned (.string (s.extract 0 i ++ t ++ s.extract j s.size)) ∧ Below w.heap.size w w' := by
  subst ea eb
  have f1 : (0 : Int) ≤ i := by omega
  have f2 : (0 : Int) ≤ j := by omega
  have f3 : (i : Int) ≤ s.size := by omega
  have f4 : (j : Int) ≤ s.size := by omega
  have f5 : ¬ 9223372036854775807 < min i s.size + t.size := by omega
  have f6 : ¬ 9223372036854775807 < min i s.size + t.size + (s.size - j) := by omega
  go_enter Tryz.func192, Tryz.ntmps192
  go_wp2
  go_region_held3 (fun ww => ww.cell? ⟨w.heap.size, 0, none⟩ = some (.int .i64 i) ∧ ww.cell? ⟨w.heap.size, 1, none⟩ = some (.int .i64 j)) ((refine ⟨?_, ?_⟩ <;> go_simp)) (fail)
  go_wp2
  refine bodyPost_ret (v := .string (s.extract 0 i ++ t ++ s.extract j s.size)) (by simp [results, Tryz.results192, go_sem]) rfl ⟨rfl, ?_⟩
  repeat (with_reducible first | exact Below.refl _ _ | refine b_s ?_ _ | refine b_a ?_ _ | refine Below.drew ?_ | refine below_drewN ?_ _)
theorem tNothing_any (a b : Int) (l : Bool) (w : World) :
    Calls Tryz.prog 172 #[.agg #[.int .i64 a, .int .i64 b, .bool l]] w fun e w' => e = .returned (.bool (a == b && !l)) ∧ Below w.heap.size w w' := by
  go_enter Tryz.func172, Tryz.ntmps172
  go_wp2_with fail
  refine (tIsEmpty_any a b _).mono ?_
  rintro e w1 ⟨rfl, h1⟩
  obtain ⟨hc1, hf1⟩ := bcell h1
  have hz1 := h1.size
  try simp at hz1
  go_wp2
  · refine bodyPost_ret (v := .bool (!l)) (by simp [results, Tryz.results172, go_sem]) rfl ⟨by rename_i hh; simp [hh], ?_⟩
    repeat (with_reducible first | exact Below.refl _ _ | refine b_s ?_ _ | refine b_a ?_ _ | refine Below.drew ?_ | refine below_drewN ?_ _ | refine b_t ?_ h1)
  · refine bodyPost_ret (v := .bool false) (by simp [results, Tryz.results172, go_sem]) rfl ⟨by rename_i hh; simp [hh], ?_⟩
    repeat (with_reducible first | exact Below.refl _ _ | refine b_s ?_ _ | refine b_a ?_ _ | refine Below.drew ?_ | refine below_drewN ?_ _ | refine b_t ?_ h1)
theorem tLines_any (s : ByteArray) (p q : Int) (k m : Nat) (w : World) (hs : s.size ≤ 1000) (ep : p = k) (eq : q = m) (hk : k ≤ s.size) (hm : m ≤ s.size) :
    Calls Tryz.prog 182 #[.string s, .int .i64 p, .int .i64 q] w fun e w' => e = .returned (.agg #[.int .i64 (min (Nib.beg s k) (Nib.beg s m)), .int .i64 (max (Nib.fin s k) (Nib.fin s m)), .bool true]) ∧ Below w.heap.size w w' := by
  generalize hV : min (Nib.beg s k : Int) (Nib.beg s m) = V
  generalize hU : max (Nib.fin s k : Int) (Nib.fin s m) = U
  have H1 := fun ww => tLine_any s p k ww hs ep hk
  have H2 := fun ww => tLine_any s q m ww hs eq hm
  have H3 := fun ww => tJoin_any (Nib.beg s k) (Nib.fin s k) (Nib.beg s m) (Nib.fin s m) ww
  rw [hV, hU] at H3
  generalize (Nib.beg s k : Int) = A at *
  generalize (Nib.fin s k : Int) = B at *
  generalize (Nib.beg s m : Int) = C at *
  generalize (Nib.fin s m : Int) = D at *
  have G1 : Hid (∀ ww, Calls Tryz.prog 195 #[.string s, .int .i64 p] ww fun e w' => e = .returned (.agg #[.int .i64 (A), .int .i64 (B)]) ∧ Below ww.heap.size ww w') := H1
  have G2 : Hid (∀ ww, Calls Tryz.prog 195 #[.string s, .int .i64 q] ww fun e w' => e = .returned (.agg #[.int .i64 (C), .int .i64 (D)]) ∧ Below ww.heap.size ww w') := H2
  have G3 : Hid (∀ ww, Calls Tryz.prog 196 #[.agg #[.int .i64 (A), .int .i64 (B)], .agg #[.int .i64 (C), .int .i64 (D)]] ww fun e w' => e = .returned (.agg #[.int .i64 (V), .int .i64 (U)]) ∧ Below ww.heap.size ww w') := H3
  clear H1 H2 H3 hV hU ep eq hk hm hs
  go_enter Tryz.func182, Tryz.ntmps182
  go_wp2_with fail
  refine (G1.out _).mono ?_
  rintro e w1 ⟨rfl, h1⟩
  obtain ⟨hc1, hf1⟩ := bcell h1
  have hz1 := h1.size
  try simp at hz1
  go_wp2_with fail
  refine (G2.out _).mono ?_
  rintro e w2 ⟨rfl, h2⟩
  obtain ⟨hc2, hf2⟩ := bcell h2
  have hz2 := h2.size
  try simp at hz2
  go_wp2_with fail
  refine (G3.out _).mono ?_
  rintro e w3 ⟨rfl, h3⟩
  obtain ⟨hc3, hf3⟩ := bcell h3
  have hz3 := h3.size
  try simp at hz3
  have l1 : w.heap.size < w1.heap.size := by omega
  have l2 : w.heap.size < w2.heap.size := by omega
  have l3 : w.heap.size < w3.heap.size := by omega
  have z0 := fun o => (hf3 w.heap.size o l2).trans ((hf2 w.heap.size o l1).trans (hf1 w.heap.size o (by simp)))
  simp at z0
  have c0 := fun o => (hc3 w.heap.size o l2).trans ((hc2 w.heap.size o l1).trans (hc1 w.heap.size o (by simp)))
  have c1 := c0 0
  have c2 := c0 1
  have c3 := c0 2
  simp at c1 c2 c3
  clear hc1 hc2 hc3 hf1 hf2 hf3 c0
  go_wp2
  refine bodyPost_ret (v := .agg #[.int .i64 V, .int .i64 U, .bool true]) (by simp [results, Tryz.results182, go_sem, c1, c2, c3, z0, l3]) rfl ⟨rfl, ?_⟩
  repeat (with_reducible first | exact Below.refl _ _ | refine b_s ?_ _ | refine b_a ?_ _ | refine Below.drew ?_ | refine below_drewN ?_ _ | refine b_t ?_ h3 | refine b_t ?_ h2 | refine b_t ?_ h1)
theorem mBehind_way (r d : Nat) (p : Pg) (key O : Int) (A B : World → Prop) (T : List Nat) (w : World) (hA : A w) (fA : Firm A) (fB : Firm B) (hr : HasR A r d p) (hk : ¬ key = p.verb) (hk1 : ¬ key = 105) (hk2 : ¬ key = 97)
    (HC : GivesB 148 #[.pointer (some ⟨r, 0, none⟩), .int .u8 key] A B O T) :
    Calls Tryz.prog 140 #[.agg #[.pointer (some ⟨r, 0, none⟩)], .int .u8 key] w fun e w' => e = .returned (.int .i64 O) ∧ B w' ∧ Upd T w w' := by
  have H := hr w hA
  obtain ⟨b0, b1, b2, b3, b4, b5, bz, bl⟩ := H.bg
  clear b1 b2 b4
  have l1 : r < w.heap.size + 1 := by omega
  have k0 : (key == p.verb) = false := by simp [hk]
  have k1 : (key == 105) = false := by simp [hk1]
  have k2 : (key == 97) = false := by simp [hk2]
  clear hk hk1 hk2
  go_enter Tryz.func140, Tryz.ntmps140
  go_wp2_with fail
  refine Calls.mono (HC.out _ (fA _ _ hA (by (repeat (with_reducible first | exact Below.refl _ _ | refine b_s ?_ _ | refine b_a ?_ _ | refine Below.drew ?_ | refine below_drewN ?_ _))))) ?_
  rintro e w2 ⟨rfl, h2, u2⟩
  go_wp2
  go_ret
  refine ⟨rfl, ?_, ?_⟩
  · exact (fB _ _ h2 (by (repeat (with_reducible first | exact Below.refl _ _ | refine b_s ?_ _ | refine b_a ?_ _ | refine Below.drew ?_ | refine below_drewN ?_ _))))
  · repeat (with_reducible first | exact Upd.refl _ _ | refine u_s ?_ _ | refine Upd.alloc ?_ _ | refine Upd.drewN ?_ _ | refine Upd.drew ?_ | refine Upd.trans ?_ (Upd.mono u2 (by simp)))
theorem mBehind_lines (r d : Nat) (p : Pg) (key O : Int) (i j : Int) (A B : World → Prop) (T : List Nat) (w : World) (hA : A w) (fA : Firm A) (fB : Firm B) (hr : HasR A r d p) (hT : r ∉ T) (hTl : ∀ k, k ∈ T → k < w.heap.size) (hk : key = p.verb)
    (HL : Hid (∀ ww, A ww → Calls Tryz.prog 147 #[.agg #[.pointer (some ⟨r, 0, none⟩)]] ww fun e w' => e = .returned (.agg #[.int .i64 i, .int .i64 j, .bool true]) ∧ Below ww.heap.size ww w'))
    (HD : GivesB 146 #[.pointer (some ⟨r, 0, none⟩), .int .u8 p.verb, .agg #[.int .i64 i, .int .i64 j, .bool true]] A B O T) :
    Calls Tryz.prog 140 #[.agg #[.pointer (some ⟨r, 0, none⟩)], .int .u8 key] w fun e w' => e = .returned (.int .i64 O) ∧ B w' ∧ Upd T w w' := by
  have H := hr w hA
  have b3 := H.bg.c3
  have bl := H.bg.lt
  have l1 : r < w.heap.size + 1 := by omega
  have k0 : (key == p.verb) = true := by simp [hk]
  have hTw : w.heap.size ∉ T := fun hk => by have := hTl _ hk; omega
  clear hk
  go_enter Tryz.func140, Tryz.ntmps140
  have g0 : (w.alloc (.cells #[.pointer (some ⟨r, 0, none⟩)] 77)).cell? ⟨w.heap.size, 0, none⟩ = some (.pointer (some ⟨r, 0, none⟩)) := by simp
  go_wp2_with fail
  go_region_held3 (fun ww => ww.cell? ⟨r, 3, none⟩ = some (.int .u8 p.verb) ∧ ww.cell? ⟨w.heap.size, 0, none⟩ = some (.pointer (some ⟨r, 0, none⟩))) ((refine ⟨?_, ?_⟩ <;> (first | (go_simp; done) | ((repeat (first | with_reducible assumption | (with_reducible refine memLater ((Below.refl _ _).alloc (Nat.le_refl _) _) ?_) | (with_reducible refine memLater ((Below.refl _ _).drew) ?_) | (with_reducible refine memLater h1 ?_) | (with_reducible refine (memSet (by omega)).trans ?_) | (go_simp; done))); done)))) (first | (go_at_call 147; refine Calls.mono (HL.out _ (fA _ _ hA (by (repeat (with_reducible first | exact Below.refl _ _ | refine b_s ?_ _ | refine b_a ?_ _ | refine Below.drew ?_ | refine below_drewN ?_ _))))) ?_; rintro r1 w1 ⟨rfl, h1⟩; have hz1 := h1.size; (try simp at hz1); (try have hl1_0 : r < w1.heap.size := (by omega)); (try have hk1_0 : r < w1.heap.size + 1 := (by omega)); (try have hl1_1 : w.heap.size < w1.heap.size := (by omega)); (try have hk1_1 : w.heap.size < w1.heap.size + 1 := (by omega))) | (go_at_call 146; refine Calls.mono (HD.out _ (fA _ _ hA (by (repeat (with_reducible first | exact Below.refl _ _ | refine b_s ?_ _ | refine b_a ?_ _ | refine Below.drew ?_ | refine below_drewN ?_ _ | refine b_t ?_ h1))))) ?_; rintro r2 w2 ⟨rfl, h2, u2⟩; have hz2 := u2.size; (try simp at hz2); have a0 := u2.was (b := r) (o := 3) (v := .int .u8 p.verb) (by (repeat (first | with_reducible assumption | (with_reducible refine memLater ((Below.refl _ _).alloc (Nat.le_refl _) _) ?_) | (with_reducible refine memLater ((Below.refl _ _).drew) ?_) | (with_reducible refine memLater h1 ?_)))) hT; have a1 := u2.was (b := w.heap.size) (o := 0) (v := .pointer (some ⟨r, 0, none⟩)) (by (repeat (first | with_reducible assumption | (with_reducible refine memLater ((Below.refl _ _).alloc (Nat.le_refl _) _) ?_) | (with_reducible refine memLater ((Below.refl _ _).drew) ?_) | (with_reducible refine memLater h1 ?_)))) hTw))
  go_wp2
  go_ret
  refine ⟨rfl, ?_, ?_⟩
  · exact (fB _ _ h2 (by (repeat (with_reducible first | exact Below.refl _ _ | refine b_s ?_ _ | refine b_a ?_ _ | refine Below.drew ?_ | refine below_drewN ?_ _))))
  · repeat (with_reducible first | exact Upd.refl _ _ | refine u_s ?_ _ | refine Upd.alloc ?_ _ | refine Upd.drewN ?_ _ | refine Upd.drew ?_ | refine Upd.trans ?_ (Upd.mono u2 (by simp)) | refine Upd.below ?_ h1)
def lnsTo (p : Pg) : Nat := Nib.att p.t (min (Nib.lin p.t p.pl + (max (cnt p) 1 - 1)) (Nib.lns p.t - 1))
theorem mTimes (r d : Nat) (p : Pg) (w : World) (h : RdAt w r d p) (hn : p.n ≤ 99) (hb : p.behind ≤ 99) :
    Calls Tryz.prog 161 #[.pointer (some ⟨r, 1, none⟩)] w fun e w' => e = .returned (.int .i64 (max (cnt p) 1 : Nat)) ∧ Below w.heap.size w w' := by
  have HC : Hid (∀ ww, RdAt ww r d p → Calls Tryz.prog 200 #[.pointer (some ⟨r, 1, none⟩)] ww fun e w' => e = .returned (.int .i64 (cnt p)) ∧ Below ww.heap.size ww w') := fun ww hh => mCount r d p ww hh hn hb
  generalize cnt p = N at *
  have H := h
  clear h
  by_cases hN : N = 0
  · subst hN
    go_enter Tryz.func161, Tryz.ntmps161
    go_wp2_with fail
    refine Calls.mono (HC.out _ (by (repeat (with_reducible first | exact H | refine RdAt.alloc ?_ _ | refine RdAt.drewN ?_ _ | refine RdAt.drew ?_ | refine r_o ?_ _)))) ?_
    rintro e w1 ⟨rfl, h1⟩
    go_wp2
    refine bodyPost_ret (v := .int .i64 1) (by simp [results, Tryz.results161, go_sem]) rfl ⟨by simp, ?_⟩
    repeat (with_reducible first | exact Below.refl _ _ | refine b_s ?_ _ | refine b_a ?_ _ | refine Below.drew ?_ | refine below_drewN ?_ _ | refine b_t ?_ h1)
  · have hN2 : max N 1 = N := by omega
    rw [hN2]
    have hN3 : ¬ ((N : Nat) : Int) < 1 := by omega
    go_enter Tryz.func161, Tryz.ntmps161
    go_wp2_with fail
    refine Calls.mono (HC.out _ (by (repeat (with_reducible first | exact H | refine RdAt.alloc ?_ _ | refine RdAt.drewN ?_ _ | refine RdAt.drew ?_ | refine r_o ?_ _)))) ?_
    rintro e w1 ⟨rfl, h1⟩
    go_wp2
    refine bodyPost_ret (v := .int .i64 N) (by simp [results, Tryz.results161, go_sem]) rfl ⟨rfl, ?_⟩
    repeat (with_reducible first | exact Below.refl _ _ | refine b_s ?_ _ | refine b_a ?_ _ | refine Below.drew ?_ | refine below_drewN ?_ _ | refine b_t ?_ h1)
theorem mLine (r d : Nat) (p : Pg) (w : World) (h : RdAt w r d p) (hs : p.t.size ≤ 1000) (hl : p.pl ≤ p.t.size) :
    Calls Tryz.prog 181 #[.pointer (some ⟨d, 0, none⟩)] w fun e w' => e = .returned (.agg #[.int .i64 (Nib.beg p.t p.pl), .int .i64 (Nib.fin p.t p.pl)]) ∧ Below w.heap.size w w' := by
  have HL : Hid (∀ ww, Calls Tryz.prog 195 #[.string p.t, .int .i64 (p.pl : Nat)] ww fun e w' => e = .returned (.agg #[.int .i64 (Nib.beg p.t p.pl), .int .i64 (Nib.fin p.t p.pl)]) ∧ Below ww.heap.size ww w') := fun ww => tLine_any p.t _ p.pl ww hs rfl hl
  have H := h
  have d0 := h.dk.c0
  have d1 := h.dk.c1
  have hld := h.dk.lt
  generalize Nib.beg p.t p.pl = X at *
  generalize Nib.fin p.t p.pl = Y at *
  clear h
  go_enter Tryz.func181, Tryz.ntmps181
  go_wp2_with fail
  go_region_held3 (fun ww => ww.cell? ⟨d, 0, none⟩ = some (.string p.t) ∧ ww.cell? ⟨d, 1, none⟩ = some (.int .i64 p.pl)) ((refine ⟨?_, ?_⟩ <;> (first | (go_simp; done) | ((repeat (first | with_reducible assumption | (with_reducible refine memLater ((Below.refl _ _).alloc (Nat.le_refl _) _) ?_) | (with_reducible refine memLater ((Below.refl _ _).drew) ?_) | (with_reducible refine memLater h1 ?_) | (with_reducible refine (memSet (by omega)).trans ?_) | (go_simp; done))); done)))) ((go_at_call 195; refine Calls.mono (HL.out _) ?_; rintro r1 w1 ⟨rfl, h1⟩; have hz1 := h1.size; (try simp at hz1); (try have hl1_0 : d < w1.heap.size := (by omega)); (try have hk1_0 : d < w1.heap.size + 1 := (by omega)); obtain ⟨hc1, hf1⟩ := bcell h1; have hn1_0 := (hc1 (w.heap.size) 0 (by first | omega | (simp <;> omega))).trans (show _ = some (.int .i64 0) by simp); have hn1_1 := (hc1 (w.heap.size) 1 (by first | omega | (simp <;> omega))).trans (show _ = some (.int .i64 0) by simp); have hq1 := fun o => (hf1 (w.heap.size) o (by first | omega | (simp <;> omega))).trans (show _ = false by simp); have hg1 : w.heap.size < w1.heap.size := (by omega); clear hc1 hf1))
  go_wp2
  refine bodyPost_ret (v := .agg #[.int .i64 (X), .int .i64 (Y)]) (by simp [results, Tryz.results181, go_sem, hn1_0, hn1_1]) rfl ⟨rfl, ?_⟩
  repeat (with_reducible first | exact Below.refl _ _ | refine b_s ?_ _ | refine b_a ?_ _ | refine Below.drew ?_ | refine below_drewN ?_ _ | refine b_t ?_ h1)
structure LnAt (w W : World) (r d k : Nat) (p : Pg) (Q : Nat) : Prop where
  rd : RdAt W r d p
  n0 : W.cell? ⟨w.heap.size, 0, none⟩ = some (.pointer (some ⟨r, 0, none⟩))
  l0 : W.cell? ⟨k, 0, none⟩ = some (.int .i64 (Q : Nat))
  q0 : W.cell? ⟨w.heap.size + 1, 0, none⟩ = some (.int .i64 0)
  q1 : W.cell? ⟨w.heap.size + 1, 1, none⟩ = some (.int .i64 0)
  q2 : W.cell? ⟨w.heap.size + 1, 2, none⟩ = some (.bool false)
  qz : ∀ o, W.frozen? ⟨w.heap.size + 1, o, none⟩ = false
  lq : w.heap.size + 1 < W.heap.size
  up : Below w.heap.size w W
theorem mLines (r d : Nat) (p : Pg) (w : World) (h : RdAt w r d p) (hs : p.t.size ≤ 1000) (hl : p.pl ≤ p.t.size) (hn : p.n ≤ 99) (hb : p.behind ≤ 99) (hc : cnt p ≤ 99) :
    Calls Tryz.prog 147 #[.agg #[.pointer (some ⟨r, 0, none⟩)]] w fun e w' => e = .returned (.agg #[.int .i64 (min (Nib.beg p.t p.pl) (Nib.beg p.t (lnsTo p))), .int .i64 (max (Nib.fin p.t p.pl) (Nib.fin p.t (lnsTo p))), .bool true]) ∧ Below w.heap.size w w' := by
  have hq : lnsTo p ≤ p.t.size := by
    have h1 := Nib.lns_pos p.t
    exact (Nib.att_in (by omega)).1
  have HLs : Hid (∀ ww, Calls Tryz.prog 182 #[.string p.t, .int .i64 (p.pl : Nat), .int .i64 (lnsTo p)] ww fun e w' => e = .returned (.agg #[.int .i64 (min (Nib.beg p.t p.pl) (Nib.beg p.t (lnsTo p))), .int .i64 (max (Nib.fin p.t p.pl) (Nib.fin p.t (lnsTo p))), .bool true]) ∧ Below ww.heap.size ww w') := fun ww => tLines_any p.t _ _ p.pl (lnsTo p) ww hs rfl rfl hl hq
  have HF : Hid (∃ Z K : Int, ∀ ww, Calls Tryz.prog 180 #[.string p.t, .agg #[.int .i64 (Nib.beg p.t p.pl), .int .i64 (Nib.fin p.t p.pl)], .int .i64 ((max (cnt p) 1 : Nat) - 1), .int .i64 1] ww fun e w' => e = .returned (.tuple #[.agg #[.int .i64 (lnsTo p), .int .i64 (Z)], .int .i64 K]) ∧ Below ww.heap.size ww w') := by
    have hm := Nib.lin_lt hl
    refine ⟨Nib.fin p.t (lnsTo p), ((min (max (cnt p) 1 - 1) (Nib.lns p.t - 1 - Nib.lin p.t p.pl) : Nat) : Int), fun ww => ?_⟩
    have := tFurther_down p.t (Nib.beg p.t p.pl) (Nib.fin p.t p.pl) ((max (cnt p) 1 : Nat) - 1) 1 (Nib.lin p.t p.pl) (max (cnt p) 1 - 1) ww hs hm (by rw [Nib.beg_eq hl]) (by rw [← Nib.fin_eq hl]) (by omega) rfl (by omega)
    exact this
  have HL : Hid (∀ ww, RdAt ww r d p → Calls Tryz.prog 181 #[.pointer (some ⟨d, 0, none⟩)] ww fun e w' => e = .returned (.agg #[.int .i64 (Nib.beg p.t p.pl), .int .i64 (Nib.fin p.t p.pl)]) ∧ Below ww.heap.size ww w') := fun ww hh => mLine r d p ww hh hs hl
  have HT : Hid (∀ ww, RdAt ww r d p → Calls Tryz.prog 161 #[.pointer (some ⟨r, 1, none⟩)] ww fun e w' => e = .returned (.int .i64 (max (cnt p) 1 : Nat)) ∧ Below ww.heap.size ww w') := fun ww hh => mTimes r d p ww hh hn hb
  generalize min (Nib.beg p.t p.pl : Int) (Nib.beg p.t (lnsTo p)) = U at *
  generalize max (Nib.fin p.t p.pl : Int) (Nib.fin p.t (lnsTo p)) = V at *
  generalize Nib.beg p.t p.pl = X at *
  generalize Nib.fin p.t p.pl = Y at *
  generalize lnsTo p = Q at *
  have hN : max (cnt p) 1 ≤ 99 := by omega
  generalize max (cnt p) 1 = N at *
  have hwr : IntKind.i64.wrap (((N : Nat) : Int) - 1) = ((N : Nat) : Int) - 1 := by rw [IntKind.wrap_i64]; omega
  obtain ⟨Z, K, HF⟩ := HF.out
  have HF : Hid (∀ ww, Calls Tryz.prog 180 #[.string p.t, .agg #[.int .i64 (X), .int .i64 (Y)], .int .i64 ((N : Nat) - 1), .int .i64 1] ww fun e w' => e = .returned (.tuple #[.agg #[.int .i64 (Q), .int .i64 (Z)], .int .i64 K]) ∧ Below ww.heap.size ww w') := HF
  have H := h
  have r0 := h.bg.c0
  have d0 := h.dk.c0
  have d1 := h.dk.c1
  have hld := h.dk.lt
  have hlr := h.bg.lt
  clear h hq
  go_enter Tryz.func147, Tryz.ntmps147
  have g0 : ((w.alloc (.cells #[.pointer (some ⟨r, 0, none⟩)] 77)).alloc (.cells #[.int .i64 0, .int .i64 0, .bool false] 186)).cell? ⟨w.heap.size, 0, none⟩ = some (.pointer (some ⟨r, 0, none⟩)) := by simp
  go_wp2_with fail
  go_region_held3 (fun ww => ww.cell? ⟨w.heap.size, 0, none⟩ = some (.pointer (some ⟨r, 0, none⟩)) ∧ ww.cell? ⟨r, 0, none⟩ = some (.pointer (some ⟨d, 0, none⟩)) ∧ ww.cell? ⟨d, 0, none⟩ = some (.string p.t)) ((refine ⟨?_, ?_, ?_⟩ <;> (first | ((repeat (first | with_reducible assumption | (with_reducible refine memLater ((Below.refl _ _).alloc (Nat.le_refl _) _) ?_) | (with_reducible refine memLater ((Below.refl _ _).drew) ?_) | (with_reducible refine memLater h1 ?_) | (with_reducible refine memLater h2 ?_) | (with_reducible refine memLater h3 ?_) | (with_reducible refine (memSet (by omega)).trans ?_))); done) | (go_simp; done)))) (first | (go_at_call 181; refine (HL.out _ (by (repeat (with_reducible first | exact H | refine RdAt.alloc ?_ _ | refine RdAt.drewN ?_ _ | refine RdAt.drew ?_ | refine r_o ?_ _)))).mono ?_; rintro r1 w1 ⟨rfl, h1⟩; obtain ⟨hc1, hf1⟩ := bcell h1; have hz1 := h1.size; (try simp at hz1); (try have hl1_0 : d < w1.heap.size := (by omega)); (try have hk1_0 : d < w1.heap.size + 1 := (by omega)); (try have hl1_1 : r < w1.heap.size := (by omega)); (try have hk1_1 : r < w1.heap.size + 1 := (by omega)); (try have hl1_2 : w.heap.size < w1.heap.size := (by omega)); (try have hk1_2 : w.heap.size < w1.heap.size + 1 := (by omega)); (try have hl1_3 : w.heap.size + 1 < w1.heap.size := (by omega)); (try have hk1_3 : w.heap.size + 1 < w1.heap.size + 1 := (by omega)); (try have hl1_4 : w.heap.size + 1 + 1 < w1.heap.size := (by omega)); (try have hk1_4 : w.heap.size + 1 + 1 < w1.heap.size + 1 := (by omega)); (try have hl1_5 : w1.heap.size < w1.heap.size := (by omega)); (try have hk1_5 : w1.heap.size < w1.heap.size + 1 := (by omega)); (try have hl1_6 : w2.heap.size < w1.heap.size := (by omega)); (try have hk1_6 : w2.heap.size < w1.heap.size + 1 := (by omega))) | (go_at_call 161; refine (HT.out _ (by (repeat (with_reducible first | exact H | refine RdAt.alloc ?_ _ | refine RdAt.drewN ?_ _ | refine RdAt.drew ?_ | refine RdAt.below ?_ h1 | refine r_o ?_ _)))).mono ?_; rintro r2 w2 ⟨rfl, h2⟩; obtain ⟨hc2, hf2⟩ := bcell h2; have hz2 := h2.size; (try simp at hz2); (try have hl2_0 : d < w2.heap.size := (by omega)); (try have hk2_0 : d < w2.heap.size + 1 := (by omega)); (try have hl2_1 : r < w2.heap.size := (by omega)); (try have hk2_1 : r < w2.heap.size + 1 := (by omega)); (try have hl2_2 : w.heap.size < w2.heap.size := (by omega)); (try have hk2_2 : w.heap.size < w2.heap.size + 1 := (by omega)); (try have hl2_3 : w.heap.size + 1 < w2.heap.size := (by omega)); (try have hk2_3 : w.heap.size + 1 < w2.heap.size + 1 := (by omega)); (try have hl2_4 : w.heap.size + 1 + 1 < w2.heap.size := (by omega)); (try have hk2_4 : w.heap.size + 1 + 1 < w2.heap.size + 1 := (by omega)); (try have hl2_5 : w1.heap.size < w2.heap.size := (by omega)); (try have hk2_5 : w1.heap.size < w2.heap.size + 1 := (by omega)); (try have hl2_6 : w2.heap.size < w2.heap.size := (by omega)); (try have hk2_6 : w2.heap.size < w2.heap.size + 1 := (by omega))) | (go_at_call 180; refine (HF.out _).mono ?_; rintro r3 w3 ⟨rfl, h3⟩; obtain ⟨hc3, hf3⟩ := bcell h3; have hz3 := h3.size; (try simp at hz3); (try have hl3_0 : d < w3.heap.size := (by omega)); (try have hk3_0 : d < w3.heap.size + 1 := (by omega)); (try have hl3_1 : r < w3.heap.size := (by omega)); (try have hk3_1 : r < w3.heap.size + 1 := (by omega)); (try have hl3_2 : w.heap.size < w3.heap.size := (by omega)); (try have hk3_2 : w.heap.size < w3.heap.size + 1 := (by omega)); (try have hl3_3 : w.heap.size + 1 < w3.heap.size := (by omega)); (try have hk3_3 : w.heap.size + 1 < w3.heap.size + 1 := (by omega)); (try have hl3_4 : w.heap.size + 1 + 1 < w3.heap.size := (by omega)); (try have hk3_4 : w.heap.size + 1 + 1 < w3.heap.size + 1 := (by omega)); (try have hl3_5 : w1.heap.size < w3.heap.size := (by omega)); (try have hk3_5 : w1.heap.size < w3.heap.size + 1 := (by omega)); (try have hl3_6 : w2.heap.size < w3.heap.size := (by omega)); (try have hk3_6 : w2.heap.size < w3.heap.size + 1 := (by omega))))
  have E : LnAt w (w3.alloc (.cells #[.int .i64 (Q : Nat), .int .i64 Z] 128)) r d (w3.heap.size) p Q := by
    refine ⟨?_, ?_, ?_, ?_, ?_, ?_, ?_, ?_, ?_⟩
    · repeat (with_reducible first | exact H | refine r_o ?_ _ | refine RdAt.alloc ?_ _ | refine RdAt.drewN ?_ _ | refine RdAt.drew ?_ | refine RdAt.below ?_ h3 | refine RdAt.below ?_ h2 | refine RdAt.below ?_ h1)
    all_goals first | (go_simp; done) | (intro o; go_simp; done) | (simp; omega) | skip
    repeat (with_reducible first | exact Below.refl _ _ | refine b_s ?_ _ | refine b_a ?_ _ | refine Below.drew ?_ | refine below_drewN ?_ _ | refine b_t ?_ h3 | refine b_t ?_ h2 | refine b_t ?_ h1)
  clear h1 h2 h3 hc1 hc2 hc3 hf1 hf2 hf3 g0 H r0 d0 d1
  generalize w3.alloc (.cells #[.int .i64 (Q : Nat), .int .i64 Z] 128) = W at *
  generalize hk : w3.heap.size = k at *
  rotate_left
  have E : LnAt w ((w3.setCell ⟨w2.heap.size, 0, none⟩ (.int .i64 (Q : Nat))).setCell ⟨w2.heap.size, 1, none⟩ (.int .i64 Z)) r d (w2.heap.size) p Q := by
    refine ⟨?_, ?_, ?_, ?_, ?_, ?_, ?_, ?_, ?_⟩
    · repeat (with_reducible first | exact H | refine r_o ?_ _ | refine RdAt.alloc ?_ _ | refine RdAt.drewN ?_ _ | refine RdAt.drew ?_ | refine RdAt.below ?_ h3 | refine RdAt.below ?_ h2 | refine RdAt.below ?_ h1)
    all_goals first | (go_simp; done) | (intro o; go_simp; done) | (simp; omega) | skip
    repeat (with_reducible first | exact Below.refl _ _ | refine b_s ?_ _ | refine b_a ?_ _ | refine Below.drew ?_ | refine below_drewN ?_ _ | refine b_t ?_ h3 | refine b_t ?_ h2 | refine b_t ?_ h1)
  clear h1 h2 h3 hc1 hc2 hc3 hf1 hf2 hf3 g0 H r0 d0 d1
  generalize (w3.setCell ⟨w2.heap.size, 0, none⟩ (.int .i64 (Q : Nat))).setCell ⟨w2.heap.size, 1, none⟩ (.int .i64 Z) = W at *
  generalize hk : w2.heap.size = k at *
  rotate_left
  have E : LnAt w ((w3.setCell ⟨w1.heap.size, 0, none⟩ (.int .i64 (Q : Nat))).setCell ⟨w1.heap.size, 1, none⟩ (.int .i64 Z)) r d (w1.heap.size) p Q := by
    refine ⟨?_, ?_, ?_, ?_, ?_, ?_, ?_, ?_, ?_⟩
    · repeat (with_reducible first | exact H | refine r_o ?_ _ | refine RdAt.alloc ?_ _ | refine RdAt.drewN ?_ _ | refine RdAt.drew ?_ | refine RdAt.below ?_ h3 | refine RdAt.below ?_ h2 | refine RdAt.below ?_ h1)
    all_goals first | (go_simp; done) | (intro o; go_simp; done) | (simp; omega) | skip
    repeat (with_reducible first | exact Below.refl _ _ | refine b_s ?_ _ | refine b_a ?_ _ | refine Below.drew ?_ | refine below_drewN ?_ _ | refine b_t ?_ h3 | refine b_t ?_ h2 | refine b_t ?_ h1)
  clear h1 h2 h3 hc1 hc2 hc3 hf1 hf2 hf3 g0 H r0 d0 d1
  generalize (w3.setCell ⟨w1.heap.size, 0, none⟩ (.int .i64 (Q : Nat))).setCell ⟨w1.heap.size, 1, none⟩ (.int .i64 Z) = W at *
  generalize hk : w1.heap.size = k at *
  rotate_left
  have E : LnAt w ((w3.setCell ⟨w.heap.size + 1 + 1, 0, none⟩ (.int .i64 (Q : Nat))).setCell ⟨w.heap.size + 1 + 1, 1, none⟩ (.int .i64 Z)) r d (w.heap.size + 1 + 1) p Q := by
    refine ⟨?_, ?_, ?_, ?_, ?_, ?_, ?_, ?_, ?_⟩
    · repeat (with_reducible first | exact H | refine r_o ?_ _ | refine RdAt.alloc ?_ _ | refine RdAt.drewN ?_ _ | refine RdAt.drew ?_ | refine RdAt.below ?_ h3 | refine RdAt.below ?_ h2 | refine RdAt.below ?_ h1)
    all_goals first | (go_simp; done) | (intro o; go_simp; done) | (simp; omega) | skip
    repeat (with_reducible first | exact Below.refl _ _ | refine b_s ?_ _ | refine b_a ?_ _ | refine Below.drew ?_ | refine below_drewN ?_ _ | refine b_t ?_ h3 | refine b_t ?_ h2 | refine b_t ?_ h1)
  clear h1 h2 h3 hc1 hc2 hc3 hf1 hf2 hf3 g0 H r0 d0 d1
  generalize (w3.setCell ⟨w.heap.size + 1 + 1, 0, none⟩ (.int .i64 (Q : Nat))).setCell ⟨w.heap.size + 1 + 1, 1, none⟩ (.int .i64 Z) = W at *
  generalize hk : w.heap.size + 1 + 1 = k at *
  rotate_left
  all_goals
    obtain ⟨rd, n0, l0, q0, q1, q2, qz, lq, up⟩ := E
    have H := rd
    have r0 := rd.bg.c0
    have d0 := rd.dk.c0
    have d1 := rd.dk.c1
    have hlr := rd.bg.lt
    have hld := rd.dk.lt
    go_wp2_with fail
    go_region_held3 (fun ww => ww.cell? ⟨w.heap.size, 0, none⟩ = some (.pointer (some ⟨r, 0, none⟩)) ∧ ww.cell? ⟨r, 0, none⟩ = some (.pointer (some ⟨d, 0, none⟩)) ∧ ww.cell? ⟨d, 0, none⟩ = some (.string p.t) ∧ ww.cell? ⟨d, 1, none⟩ = some (.int .i64 p.pl) ∧ ww.cell? ⟨k, 0, none⟩ = some (.int .i64 (Q : Nat))) ((refine ⟨?_, ?_, ?_, ?_, ?_⟩ <;> (first | (go_simp; done) | ((repeat (first | with_reducible assumption | (with_reducible refine memLater ((Below.refl _ _).alloc (Nat.le_refl _) _) ?_) | (with_reducible refine memLater ((Below.refl _ _).drew) ?_) | (with_reducible refine memLater h4 ?_) | (with_reducible refine (memSet (by omega)).trans ?_) | (go_simp; done))); done)))) ((go_at_call 182; refine Calls.mono (HLs.out _) ?_; rintro r4 w4 ⟨rfl, h4⟩; have hz4 := h4.size; (try simp at hz4); (try have hl4_0 : d < w4.heap.size := (by omega)); (try have hk4_0 : d < w4.heap.size + 1 := (by omega)); (try have hl4_1 : k < w4.heap.size := (by omega)); (try have hk4_1 : k < w4.heap.size + 1 := (by omega)); (try have hl4_2 : r < w4.heap.size := (by omega)); (try have hk4_2 : r < w4.heap.size + 1 := (by omega)); (try have hl4_3 : w.heap.size < w4.heap.size := (by omega)); (try have hk4_3 : w.heap.size < w4.heap.size + 1 := (by omega)); obtain ⟨hc4, hf4⟩ := bcell h4; have hb4_0 := fun o => hc4 (w.heap.size + 1) o (by first | omega | (simp <;> omega)); have fb4_0 := fun o => hf4 (w.heap.size + 1) o (by first | omega | (simp <;> omega)); (try have hg4_0 : w.heap.size + 1 < w4.heap.size := (by omega)); clear hc4 hf4))
    go_wp2
    refine bodyPost_ret (v := .agg #[.int .i64 U, .int .i64 V, .bool true]) (by simp [results, Tryz.results147, go_sem, hb4_0, q0, q1, q2]) rfl ⟨rfl, ?_⟩
    repeat (with_reducible first | exact Below.refl _ _ | refine b_s ?_ _ | refine b_a ?_ _ | refine Below.drew ?_ | refine below_drewN ?_ _ | refine b_t ?_ h4 | refine b_t ?_ up)
end Go.Proofs.YtlendfhehhacpaaGreat
