/- A part. -/
import Derived.Test.YtlendfhehhacpaaGreatT13
set_option linter.unusedVariables false
set_option linter.unusedSimpArgs false
set_option maxRecDepth 100000
set_option maxHeartbeats 8000000
namespace Go.Proofs.YtlendfhehhacpaaGreat
open Go.RowKit Nib Tryz
theorem mBehind_way (r d : Nat) (p : Pg) (key O : Int) (A B : World → Prop) (T : List Nat) (w : World) (hA : A w) (fA : Firm A) (fB : Firm B) (hr : HasR A r d p) (hk : ¬ key = p.verb) (hk1 : ¬ key = 105) (hk2 : ¬ key = 97)
  (HC : GivesB 148 #[.pointer (some ⟨r, 0, none⟩), .int .u8 key] A B O T) :
  Calls Tryz.prog 140 #[.agg #[.pointer (some ⟨r, 0, none⟩)], .int .u8 key] w fun e w' => e = .returned (.int .i64 O) ∧ B w' ∧ Upd T w w' := by
 have H := hr w hA
 obtain ⟨b0, b1, b2, b3, b4, b5, bz, bl⟩ := H.bg
 clear b1 b2 b4
 have l1 : r < w.heap.size + 1 := by omega
 have k0 : (key == p.verb) = false := by simp [hk]
 have k1 : (key == 105) = false := by simp [hk1]
 have k2 : (key == 97) = false := by simp [hk2]
 clear hk hk1 hk2
 go_enter func140, ntmps140
 exact qt54
theorem mBehind_lines (r d : Nat) (p : Pg) (key O : Int) (i j : Int) (A B : World → Prop) (T : List Nat) (w : World) (hA : A w) (fA : Firm A) (fB : Firm B) (hr : HasR A r d p) (hT : r ∉ T) (hTl : ∀ k, k ∈ T → k < w.heap.size) (hk : key = p.verb)
  (HL : Hid (∀ ww, A ww → qC 147 #[.agg #[.pointer (some ⟨r, 0, none⟩)]] ww (.agg #[.int .i64 i, .int .i64 j, .bool true])))
  (HD : GivesB 146 #[.pointer (some ⟨r, 0, none⟩), .int .u8 p.verb, .agg #[.int .i64 i, .int .i64 j, .bool true]] A B O T) :
  Calls Tryz.prog 140 #[.agg #[.pointer (some ⟨r, 0, none⟩)], .int .u8 key] w fun e w' => e = .returned (.int .i64 O) ∧ B w' ∧ Upd T w w' := by
 have H := hr w hA
 have b3 := H.bg.c3
 have bl := H.bg.lt
 have l1 : r < w.heap.size + 1 := by omega
 have k0 : (key == p.verb) = true := by simp [hk]
 have hTw : w.heap.size ∉ T := fun hk => by have := hTl _ hk; omega
 clear hk
 go_enter func140, ntmps140
 have g0 : (w.alloc (.cells #[.pointer (some ⟨r, 0, none⟩)] 77)).cell? ⟨w.heap.size, 0, none⟩ = some (.pointer (some ⟨r, 0, none⟩)) := by simp
 go_wp2_with fail
 go_region_held3 (fun ww => ww.cell? ⟨r, 3, none⟩ = some (.int .u8 p.verb) ∧ ww.cell? ⟨w.heap.size, 0, none⟩ = some (.pointer (some ⟨r, 0, none⟩))) (exact qK) (first | (go_at_call 147; refine Calls.mono (HL.out _ (fA _ _ hA qB)) ?_; rintro r1 w1 ⟨rfl, h1⟩; have hz1 := h1.size; (try simp at hz1); (try have ⟨hl1_0, hk1_0⟩ := qL r w1.heap.size); (try have ⟨hl1_1, hk1_1⟩ := qL w.heap.size w1.heap.size)) | (go_at_call 146; refine Calls.mono (HD.out _ (fA _ _ hA qB)) ?_; rintro r2 w2 ⟨rfl, h2, u2⟩; have hz2 := u2.size; (try simp at hz2); have a0 := u2.was (b := r) (o := 3) (v := .int .u8 p.verb) qM hT; have a1 := u2.was (b := w.heap.size) (o := 0) (v := .pointer (some ⟨r, 0, none⟩)) qM hTw))
 go_wp2
 go_ret
 refine ⟨rfl, ?_, ?_⟩
 ·exact (fB _ _ h2 qB)
 ·repeat exact qU
def lnsTo (p : Pg) : Nat := att p.t (min (lin p.t p.pl + (max (cnt p) 1 - 1)) (lns p.t - 1))
theorem mTimes (r d : Nat) (p : Pg) (w : World) (h : RdAt w r d p) (hn : p.n ≤ 99) (hb : p.behind ≤ 99) :
  qC 161 #[.pointer (some ⟨r, 1, none⟩)] w (.int .i64 (max (cnt p) 1 : Nat)) := by
 have HC : Hid (∀ ww, RdAt ww r d p → qC 200 #[.pointer (some ⟨r, 1, none⟩)] ww (.int .i64 (cnt p))) := fun ww hh => mCount r d p ww hh hn hb
 generalize cnt p = N at *
 have H := h
 clear h
 by_cases hN : N = 0
 ·subst hN
  go_enter func161, ntmps161
  go_wp2_with fail
  refine Calls.mono (HC.out _ qRd) ?_
  rintro e w1 ⟨rfl, h1⟩
  go_wp2
  exact qV (.int .i64 1) (by simp [results, results161, go_sem]) qi
 ·have hN2 : max N 1 = N := by omega
  rw [hN2]
  have hN3 : ¬ ((N : Nat) : Int) < 1 := by omega
  go_enter func161, ntmps161
  go_wp2_with fail
  refine Calls.mono (HC.out _ qRd) ?_
  rintro e w1 ⟨rfl, h1⟩
  go_wp2
  exact qV (.int .i64 N) (by simp [results, results161, go_sem]) rfl
theorem mLine (r d : Nat) (p : Pg) (w : World) (h : RdAt w r d p) (hs : p.t.size ≤ 1000) (hl : p.pl ≤ p.t.size) :
  qC 181 #[.pointer (some ⟨d, 0, none⟩)] w (.agg #[.int .i64 (beg p.t p.pl), .int .i64 (fin p.t p.pl)]) := by
 have HL : qH 195 #[.string p.t, .int .i64 (p.pl : Nat)] (.agg #[.int .i64 (beg p.t p.pl), .int .i64 (fin p.t p.pl)]) := fun ww => tLine_any p.t _ p.pl ww hs rfl hl
 have H := h
 have d0 := h.dk.c0
 have d1 := h.dk.c1
 have hld := h.dk.lt
 generalize beg p.t p.pl = X at *
 generalize fin p.t p.pl = Y at *
 clear h
 go_enter func181, ntmps181
 go_wp2_with fail
 go_region_held3 (fun ww => ww.cell? ⟨d, 0, none⟩ = some (.string p.t) ∧ ww.cell? ⟨d, 1, none⟩ = some (.int .i64 p.pl)) (exact qK) ((go_at_call 195; refine Calls.mono (HL.out _) ?_; rintro r1 w1 ⟨rfl, h1⟩; have hz1 := h1.size; (try simp at hz1); (try have ⟨hl1_0, hk1_0⟩ := qL d w1.heap.size); obtain ⟨hc1, hf1⟩ := bcell h1; have hn1_0 := (hc1 (w.heap.size) 0 qO).trans (show _ = some (.int .i64 0) by simp); have hn1_1 := (hc1 (w.heap.size) 1 qO).trans (show _ = some (.int .i64 0) by simp); have hq1 := fun o => (hf1 (w.heap.size) o qO).trans (show _ = false by simp); have hg1 : w.heap.size < w1.heap.size := qo; clear hc1 hf1))
 go_wp2
 exact qV (.agg #[.int .i64 (X), .int .i64 (Y)]) (by simp [results, results181, go_sem, hn1_0, hn1_1]) rfl
structure LnAt (w W : World) (r d k : Nat) (p : Pg) (Q : Nat) : Prop where
 rd : RdAt W r d p
 n0 : W.cell? ⟨w.heap.size, 0, none⟩ = some (.pointer (some ⟨r, 0, none⟩))
 l0 : W.cell? ⟨k, 0, none⟩ = some (.int .i64 (Q : Nat))
 q0 : W.cell? ⟨w.heap.size + 1, 0, none⟩ = some (.int .i64 0)
 q1 : W.cell? ⟨w.heap.size + 1, 1, none⟩ = some (.int .i64 0)
 q2 : W.cell? ⟨w.heap.size + 1, 2, none⟩ = some (.bool false)
 qz : ∀ o, W.frozen? ⟨w.heap.size + 1, o, none⟩ = false
 lq : w.heap.size + 1 < W.heap.size
 up : Below w.heap.size w W
theorem qt57 {P : Prop} (h : P := by
  refine ⟨?_, ?_, ?_, ?_, ?_, ?_, ?_, ?_, ?_⟩
  ·repeat exact qRd
  all_goals first | (go_simp; done) | (intro o; go_simp; done) | (simp; omega) | skip
  repeat exact qB
 ) : P := h
theorem mLines (r d : Nat) (p : Pg) (w : World) (h : RdAt w r d p) (hs : p.t.size ≤ 1000) (hl : p.pl ≤ p.t.size) (hn : p.n ≤ 99) (hb : p.behind ≤ 99) (hc : cnt p ≤ 99) :
  qC 147 #[.agg #[.pointer (some ⟨r, 0, none⟩)]] w (.agg #[.int .i64 (min (beg p.t p.pl) (beg p.t (lnsTo p))), .int .i64 (max (fin p.t p.pl) (fin p.t (lnsTo p))), .bool true]) := by
 have hq : lnsTo p ≤ p.t.size := by
  have h1 := lns_pos p.t
  exact (att_in qo).1
 have HLs : qH 182 #[.string p.t, .int .i64 (p.pl : Nat), .int .i64 (lnsTo p)] (.agg #[.int .i64 (min (beg p.t p.pl) (beg p.t (lnsTo p))), .int .i64 (max (fin p.t p.pl) (fin p.t (lnsTo p))), .bool true]) := fun ww => tLines_any p.t _ _ p.pl (lnsTo p) ww hs rfl rfl hl hq
 have HF : Hid (∃ Z K : Int, ∀ ww, qC 180 #[.string p.t, .agg #[.int .i64 (beg p.t p.pl), .int .i64 (fin p.t p.pl)], .int .i64 ((max (cnt p) 1 : Nat) - 1), .int .i64 1] ww (.tuple #[.agg #[.int .i64 (lnsTo p), .int .i64 (Z)], .int .i64 K])) := by
  have hm := lin_lt hl
  refine ⟨fin p.t (lnsTo p), ((min (max (cnt p) 1 - 1) (lns p.t - 1 - lin p.t p.pl) : Nat) : Int), fun ww => ?_⟩
  have := tFurther_down p.t (beg p.t p.pl) (fin p.t p.pl) ((max (cnt p) 1 : Nat) - 1) 1 (lin p.t p.pl) (max (cnt p) 1 - 1) ww hs hm (by rw [beg_eq hl]) (by rw [← fin_eq hl]) qo rfl qo
  exact this
 have HL : Hid (∀ ww, RdAt ww r d p → qC 181 #[.pointer (some ⟨d, 0, none⟩)] ww (.agg #[.int .i64 (beg p.t p.pl), .int .i64 (fin p.t p.pl)])) := fun ww hh => mLine r d p ww hh hs hl
 have HT : Hid (∀ ww, RdAt ww r d p → qC 161 #[.pointer (some ⟨r, 1, none⟩)] ww (.int .i64 (max (cnt p) 1 : Nat))) := fun ww hh => mTimes r d p ww hh hn hb
 generalize min (beg p.t p.pl : Int) (beg p.t (lnsTo p)) = U at *
 generalize max (fin p.t p.pl : Int) (fin p.t (lnsTo p)) = V at *
 generalize beg p.t p.pl = X at *
 generalize fin p.t p.pl = Y at *
 generalize lnsTo p = Q at *
 have hN : max (cnt p) 1 ≤ 99 := by omega
 generalize max (cnt p) 1 = N at *
 have hwr : IntKind.i64.wrap (((N : Nat) : Int) - 1) = ((N : Nat) : Int) - 1 := by rw [IntKind.wrap_i64]; omega
 obtain ⟨Z, K, HF⟩ := HF.out
 have HF : qH 180 #[.string p.t, .agg #[.int .i64 (X), .int .i64 (Y)], .int .i64 ((N : Nat) - 1), .int .i64 1] (.tuple #[.agg #[.int .i64 (Q), .int .i64 (Z)], .int .i64 K]) := HF
 have H := h
 have r0 := h.bg.c0
 have d0 := h.dk.c0
 have d1 := h.dk.c1
 have hld := h.dk.lt
 have hlr := h.bg.lt
 clear h hq
 go_enter func147, ntmps147
 have g0 : ((w.alloc (.cells #[.pointer (some ⟨r, 0, none⟩)] 77)).alloc (.cells #[.int .i64 0, .int .i64 0, .bool false] 186)).cell? ⟨w.heap.size, 0, none⟩ = some (.pointer (some ⟨r, 0, none⟩)) := by simp
 go_wp2_with fail
 go_region_held3 (fun ww => ww.cell? ⟨w.heap.size, 0, none⟩ = some (.pointer (some ⟨r, 0, none⟩)) ∧ ww.cell? ⟨r, 0, none⟩ = some (.pointer (some ⟨d, 0, none⟩)) ∧ ww.cell? ⟨d, 0, none⟩ = some (.string p.t)) ((refine ⟨?_, ?_, ?_⟩ <;> (first | ((repeat exact qM); done) | (go_simp; done)))) (first | (go_at_call 181; refine (HL.out _ qRd).mono ?_; rintro r1 w1 ⟨rfl, h1⟩; obtain ⟨hc1, hf1, hz1⟩ := qb h1; (try simp at hz1); (try have ⟨hl1_0, hk1_0⟩ := qL d w1.heap.size); (try have ⟨hl1_1, hk1_1⟩ := qL r w1.heap.size); (try have ⟨hl1_2, hk1_2⟩ := qL w.heap.size w1.heap.size); (try have ⟨hl1_3, hk1_3⟩ := qL (w.heap.size + 1) w1.heap.size); (try have ⟨hl1_4, hk1_4⟩ := qL (w.heap.size + 1 + 1) w1.heap.size); (try have ⟨hl1_5, hk1_5⟩ := qL w1.heap.size w1.heap.size); (try have ⟨hl1_6, hk1_6⟩ := qL w2.heap.size w1.heap.size)) | (go_at_call 161; refine (HT.out _ qRd).mono ?_; rintro r2 w2 ⟨rfl, h2⟩; obtain ⟨hc2, hf2, hz2⟩ := qb h2; (try simp at hz2); (try have ⟨hl2_0, hk2_0⟩ := qL d w2.heap.size); (try have ⟨hl2_1, hk2_1⟩ := qL r w2.heap.size); (try have ⟨hl2_2, hk2_2⟩ := qL w.heap.size w2.heap.size); (try have ⟨hl2_3, hk2_3⟩ := qL (w.heap.size + 1) w2.heap.size); (try have ⟨hl2_4, hk2_4⟩ := qL (w.heap.size + 1 + 1) w2.heap.size); (try have ⟨hl2_5, hk2_5⟩ := qL w1.heap.size w2.heap.size); (try have ⟨hl2_6, hk2_6⟩ := qL w2.heap.size w2.heap.size)) | (go_at_call 180; refine (HF.out _).mono ?_; rintro r3 w3 ⟨rfl, h3⟩; obtain ⟨hc3, hf3, hz3⟩ := qb h3; (try simp at hz3); (try have ⟨hl3_0, hk3_0⟩ := qL d w3.heap.size); (try have ⟨hl3_1, hk3_1⟩ := qL r w3.heap.size); (try have ⟨hl3_2, hk3_2⟩ := qL w.heap.size w3.heap.size); (try have ⟨hl3_3, hk3_3⟩ := qL (w.heap.size + 1) w3.heap.size); (try have ⟨hl3_4, hk3_4⟩ := qL (w.heap.size + 1 + 1) w3.heap.size); (try have ⟨hl3_5, hk3_5⟩ := qL w1.heap.size w3.heap.size); (try have ⟨hl3_6, hk3_6⟩ := qL w2.heap.size w3.heap.size)))
 have E : LnAt w (w3.alloc (.cells #[.int .i64 (Q : Nat), .int .i64 Z] 128)) r d (w3.heap.size) p Q := by
  exact qt57
 clear h1 h2 h3 hc1 hc2 hc3 hf1 hf2 hf3 g0 H r0 d0 d1
 generalize w3.alloc (.cells #[.int .i64 (Q : Nat), .int .i64 Z] 128) = W at *
 generalize hk : w3.heap.size = k at *
 rotate_left
 have E : LnAt w ((w3.setCell ⟨w2.heap.size, 0, none⟩ (.int .i64 (Q : Nat))).setCell ⟨w2.heap.size, 1, none⟩ (.int .i64 Z)) r d (w2.heap.size) p Q := by
  exact qt57
 clear h1 h2 h3 hc1 hc2 hc3 hf1 hf2 hf3 g0 H r0 d0 d1
 generalize (w3.setCell ⟨w2.heap.size, 0, none⟩ (.int .i64 (Q : Nat))).setCell ⟨w2.heap.size, 1, none⟩ (.int .i64 Z) = W at *
 generalize hk : w2.heap.size = k at *
 rotate_left
 have E : LnAt w ((w3.setCell ⟨w1.heap.size, 0, none⟩ (.int .i64 (Q : Nat))).setCell ⟨w1.heap.size, 1, none⟩ (.int .i64 Z)) r d (w1.heap.size) p Q := by
  exact qt57
 clear h1 h2 h3 hc1 hc2 hc3 hf1 hf2 hf3 g0 H r0 d0 d1
 generalize (w3.setCell ⟨w1.heap.size, 0, none⟩ (.int .i64 (Q : Nat))).setCell ⟨w1.heap.size, 1, none⟩ (.int .i64 Z) = W at *
 generalize hk : w1.heap.size = k at *
 rotate_left
 have E : LnAt w ((w3.setCell ⟨w.heap.size + 1 + 1, 0, none⟩ (.int .i64 (Q : Nat))).setCell ⟨w.heap.size + 1 + 1, 1, none⟩ (.int .i64 Z)) r d (w.heap.size + 1 + 1) p Q := by
  exact qt57
 clear h1 h2 h3 hc1 hc2 hc3 hf1 hf2 hf3 g0 H r0 d0 d1
 generalize (w3.setCell ⟨w.heap.size + 1 + 1, 0, none⟩ (.int .i64 (Q : Nat))).setCell ⟨w.heap.size + 1 + 1, 1, none⟩ (.int .i64 Z) = W at *
 generalize hk : w.heap.size + 1 + 1 = k at *
 rotate_left
 all_goals
  obtain ⟨rd, n0, l0, q0, q1, q2, qz, lq, up⟩ := E
  have H := rd
  have r0 := rd.bg.c0
  have d0 := rd.dk.c0
  have d1 := rd.dk.c1
  have hlr := rd.bg.lt
  have hld := rd.dk.lt
  go_wp2_with fail
  go_region_held3 (fun ww => ww.cell? ⟨w.heap.size, 0, none⟩ = some (.pointer (some ⟨r, 0, none⟩)) ∧ ww.cell? ⟨r, 0, none⟩ = some (.pointer (some ⟨d, 0, none⟩)) ∧ ww.cell? ⟨d, 0, none⟩ = some (.string p.t) ∧ ww.cell? ⟨d, 1, none⟩ = some (.int .i64 p.pl) ∧ ww.cell? ⟨k, 0, none⟩ = some (.int .i64 (Q : Nat))) (exact qK) ((go_at_call 182; refine Calls.mono (HLs.out _) ?_; rintro r4 w4 ⟨rfl, h4⟩; have hz4 := h4.size; (try simp at hz4); (try have ⟨hl4_0, hk4_0⟩ := qL d w4.heap.size); (try have ⟨hl4_1, hk4_1⟩ := qL k w4.heap.size); (try have ⟨hl4_2, hk4_2⟩ := qL r w4.heap.size); (try have ⟨hl4_3, hk4_3⟩ := qL w.heap.size w4.heap.size); obtain ⟨hc4, hf4⟩ := bcell h4; have hb4_0 := fun o => hc4 (w.heap.size + 1) o qO; have fb4_0 := fun o => hf4 (w.heap.size + 1) o qO; (try have hg4_0 : w.heap.size + 1 < w4.heap.size := qo); clear hc4 hf4))
  go_wp2
  exact qV (.agg #[.int .i64 U, .int .i64 V, .bool true]) (by simp [results, results147, go_sem, hb4_0, q0, q1, q2]) rfl
