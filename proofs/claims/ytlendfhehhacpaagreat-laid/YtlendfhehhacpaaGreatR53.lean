/- A part. -/
import Derived.Test.YtlendfhehhacpaaGreatR52
import Derived.BigQuiet
set_option linter.unusedVariables false
set_option linter.unusedSimpArgs false
set_option maxRecDepth 100000
set_option maxHeartbeats 8000000
namespace Go.Proofs.YtlendfhehhacpaaGreat
open Go.RowKit Nib Tryz
theorem lWs_size (k : Nat) : (lWs k).size ≤ 2 := by
 unfold lWs
 split <;> decide
theorem kLaid (HA : AnyOk) (text keys : ByteArray) (way : Int) (w : World) (h3 : -9223372036854775808 ≤ way) (h4 : way ≤ 9223372036854775807) :
  qC 10 #[.string text, .string keys, .int .i64 way] w (.bool true) := by
 have HK : qH 14 #[] (.bool true) := fun ww => kKnown ww
 have HO : Hid (∀ ww, Calls Tryz.prog 15 #[.string text] ww fun e w' => ∃ q b r d m : Nat, e = .returned (.pointer (some ⟨q, 0, none⟩)) ∧ New7 ww w' q b r d m (cut3 text) ∧ Below ww.heap.size ww w') := fun ww => kOpened text ww
 have HU2 : qH 16 #[.string keys, .int .i64 300] (.string (cut3 keys)) := fun ww => kUpTo keys ww
 obtain ⟨K, hK6, HP⟩ := kPick way 6 w h3 h4 qd qd
 have HP : qH 22 #[.int .i64 way, .int .i64 6] (.int .i64 (K : Nat)) := HP
 have ht := cut3_size text
 have hk := cut3_size keys
 generalize cut3 text = t at *
 generalize cut3 keys = ks at *
 go_enter func10, ntmps10
 go_wp2_with fail
 refine Calls.mono (HK.out _) ?_
 rintro e w1 ⟨rfl, g1⟩
 have z1 := g1.size
 go_wp2_with fail
 refine Calls.mono (HO.out _) ?_
 rintro e w2 ⟨q, b, r, d, m, rfl, N2, g2⟩
 have z2 := g2.size
 go_wp2_with fail
 refine Calls.mono (HU2.out _) ?_
 rintro e w3 ⟨rfl, g3⟩
 have z3 := g3.size
 have N3 := N2.below g3
 have B3 : Below w.heap.size w w3 := by
  repeat exact qB
 obtain ⟨X, S3⟩ := N3.sts qo
 have CQ : Hid (∀ ww, Upd [b, r, d, m] w3 ww → ww.cell? ⟨q, 0, none⟩ = some (.pointer (some ⟨b, 0, none⟩))) := fun ww hu => hu.was N3.cq (by simp [N3.qb, N3.qr, N3.qd, N3.qm])
 have hlq := World.block_lt_of_cell? w3 ⟨q, 0, none⟩ N3.cq
 have hql : q < w3.heap.size := hlq
 have NL := And.intro N3.lb (And.intro N3.lr (And.intro N3.ld N3.lm))
 have NQ := And.intro N3.qb (And.intro N3.qr (And.intro N3.qd N3.qm))
 have c3 := N3.cq
 have zw := B3.size
 clear HK HO HU2 g1 g2 g3 N2 N3 z2 z3 hlq
 go_wp2_with fail
 refine Calls.mono (sTypes HA X q 0 ks qo _ c3 S3) ?_
 rintro e w4 ⟨n4, rfl, S4⟩
 have c4 := CQ.out _ S4.up
 clear S3 c3
 go_wp2_with fail
 refine Calls.mono (sTypeZ HA X q (0 + ks.size) qo ⟨#[27, 27]⟩ rfl two_esc _ c4 S4) ?_
 rintro e w5 ⟨n5, rfl, x, ⟨p, ⟨f, S5⟩, hm, hn⟩, hx⟩
 have S5 : StF t w3 [] b r d m (0 + ks.size + 2) p f x w5 := S5
 have c5 := CQ.out _ S5.up
 clear S4 c4
 have HN := S5.state c5
 rw [hm, waits_none hn] at HN
 go_wp2_with fail
 refine Calls.mono HN ?_
 rintro e w6 ⟨rfl, g6⟩
 have S6 := StF.firm _ _ S5 g6
 have z6 := S6.up.size
 clear HN S5 c5 g6
 generalize hT : p.t = T at *
 generalize hPL : p.pl = PL at *
 generalize hPA : p.anchor = PA at *
 go_wp2_with fail
 refine Calls.mono (HP.out _) ?_
 rintro e w8 ⟨rfl, g8⟩
 have z8 := g8.size
 simp at z8
 have B68 : Below w6.heap.size w6 w8 := by
  repeat exact qB
 obtain ⟨O2, o1, X2, S8⟩ := S6.rebase X B68
 have a0 : w8.cell? ⟨w6.heap.size, 0, none⟩ = some (.string T) := memLater g8 qi
 have a1 : w8.cell? ⟨w6.heap.size, 1, none⟩ = some (.int .i64 PL) := memLater g8 qi
 have a2 : w8.cell? ⟨w6.heap.size, 2, none⟩ = some (.int .i64 PA) := memLater g8 qi
 have a3 : w8.cell? ⟨w6.heap.size, 3, none⟩ = some (.int .i64 0) := memLater g8 qi
 have a4 : w8.cell? ⟨w6.heap.size, 4, none⟩ = some (.bool false) := memLater g8 qi
 have y : w8.cell? ⟨w6.heap.size + 1, K, none⟩ = some (.string (lWs K)) := by
  match K, hK6 with
  | 0, _ => exact memLater g8 (by simp [lWs])
  | 1, _ => exact memLater g8 (by simp [lWs])
  | 2, _ => exact memLater g8 (by simp [lWs])
  | 3, _ => exact memLater g8 (by simp [lWs])
  | 4, _ => exact memLater g8 (by simp [lWs])
  | 5, _ => exact memLater g8 (by simp [lWs])
 have wb : w6.heap.size ∉ b :: r :: d :: m :: O2 := by
  have := X.lb; have := X.lr; have := X.ld; have := X.lm
  intro h
  rcases List.mem_cons.1 h with h | h
  ·omega
  rcases List.mem_cons.1 h with h | h
  ·omega
  rcases List.mem_cons.1 h with h | h
  ·omega
  rcases List.mem_cons.1 h with h | h
  ·omega
  have := (o1 _ h).1; omega
 have qb' : q ∉ b :: r :: d :: m :: O2 := by
  intro h
  rcases List.mem_cons.1 h with h | h
  ·exact NQ.1 h
  rcases List.mem_cons.1 h with h | h
  ·exact NQ.2.1 h
  rcases List.mem_cons.1 h with h | h
  ·exact NQ.2.2.1 h
  rcases List.mem_cons.1 h with h | h
  ·exact NQ.2.2.2 h
  have := (o1 _ h).2.2
  simp at this
  omega
 have c8 : w8.cell? ⟨q, 0, none⟩ = some (.pointer (some ⟨b, 0, none⟩)) := CQ.out _ (Upd.below S6.up B68)
 have CQ2 : Hid (∀ ww, Upd (b :: r :: d :: m :: O2) w8 ww → ww.cell? ⟨q, 0, none⟩ = some (.pointer (some ⟨b, 0, none⟩))) := fun ww hu => hu.was c8 qb'
 have WQ : Hid (∀ ww, Upd (b :: r :: d :: m :: O2) w8 ww → ww.cell? ⟨w6.heap.size, 0, none⟩ = some (.string T) ∧ ww.cell? ⟨w6.heap.size, 1, none⟩ = some (.int .i64 PL) ∧ ww.cell? ⟨w6.heap.size, 2, none⟩ = some (.int .i64 PA) ∧ ww.cell? ⟨w6.heap.size, 3, none⟩ = some (.int .i64 0) ∧ ww.cell? ⟨w6.heap.size, 4, none⟩ = some (.bool false)) := fun ww hu => ⟨hu.was a0 wb, hu.was a1 wb, hu.was a2 wb, hu.was a3 wb, hu.was a4 wb⟩
 have B8 : Below w.heap.size w w8 := (B3.trans (below_of_upd (Upd.below S6.up B68) qo (by
  intro x hx
  simp at hx
  obtain ⟨n1, n2, n3, n4⟩ := NL
  rcases hx with hx | hx | hx | hx <;> omega)))
 have BQ : Hid (∀ ww, Upd (b :: r :: d :: m :: O2) w8 ww → Below w.heap.size w ww) := fun ww hu => B8.trans (below_of_upd hu (by have := B8.size; omega) (by
  obtain ⟨n1, n2, n3, n4⟩ := NL
  intro x hx
  rcases List.mem_cons.1 hx with h | h
  ·omega
  rcases List.mem_cons.1 h with h | h
  ·omega
  rcases List.mem_cons.1 h with h | h
  ·omega
  rcases List.mem_cons.1 h with h | h
  ·omega
  have := (o1 _ h).2.2
  simp at this
  omega))
 have HT := lTyped HA X2 q (0 + ks.size + 2) qo K p f x hm hn w8 c8 S8 hK6
 have hKi : ((K : Nat) : Int) < 6 := by omega
 have hK0 : (0 : Int) ≤ ((K : Nat) : Int) := by omega
 have hls := lWs_size K
 have hlz : w6.heap.size < w8.heap.size := by omega
 have hx1 := S6.txt (by rw [hm]; decide)
 have hTs : T.size ≤ 1000 := by rw [← hT]; exact S6.good.ts
 have hxT : x.1 = T := hx1.1.symm.trans hT
 have hnw : p.now = T := hx1.2.trans hxT
 clear S6 S8 B68 g8 NQ NL CQ HP X B3 B8 hx1
 go_wp2_with fail
 refine Calls.mono HT ?_
 rintro e w9 ⟨n9, rfl, O, N9, hN9, ⟨pq, f9, bk, fo, S9, D9, hn9, hw9⟩, hO9⟩
 have hz9 := S9.up.size
 have hl9 : w6.heap.size < w9.heap.size := by omega
 obtain ⟨s0, s1, s2, s3, s4⟩ := WQ.out _ S9.up
 clear HT y a0 a1 a2 a3 a4 c8
 rcases D9 with ⟨hO, d1, d2, d3, d4⟩ | ⟨hO, i, j, hij, hj, d1, d2, d3⟩
 ·
  subst hO
  have hn1 : n9 = 1 := by rw [hO9, if_pos rfl]
  subst hn1
  have HS9 : Hid (∀ ww, StF t w8 O2 b r d m N9 { pq with now := pq.t, back := bk, forth := fo } f9 (kpx pq x) ww → qC 18 #[.pointer (some ⟨q, 0, none⟩)] ww (.agg #[.string T, .int .i64 PL, .int .i64 PA, .int .i64 0, .bool false])) := by
   intro ww hS
   have := hS.state (CQ2.out _ hS.up)
   rw [waits_none (nn_with hn9)] at this
   have e1 : pq.t = T := d1.trans hT
   have e2 : pq.pl = PL := d2.trans hPL
   have e3 : pq.anchor = PA := d3.trans hPA
   have e4 : pq.mode = 0 := d4.trans hm
   have h5 : qC 18 #[.pointer (some ⟨q, 0, none⟩)] ww (.agg #[.string pq.t, .int .i64 pq.pl, .int .i64 pq.anchor, .int .i64 pq.mode, .bool false]) := this
   rw [e1, e2, e3, e4] at h5
   exact h5
  have HE : ∀ ww : World, (binOp .eql 32 (.agg #[.string T, .int .i64 PL, .int .i64 PA, .int .i64 0, .bool false]) (.agg #[.string T, .int .i64 PL, .int .i64 PA, .int .i64 0, .bool false])).run Tryz.prog ww = .ok (.bool true) ww := fun ww => eql_stateK T PL PA 0 false ww
  have Bq9 := BQ.out _ S9.up
  clear hO9 d1 d2 d3 d4 hT hPL hPA hn hm hw9 hnw hxT WQ CQ2 BQ hn9 X2 o1 wb qb' hx
  go_wp2_with fail
  go_region_held3 (fun ww => ww.cell? ⟨w6.heap.size, 0, none⟩ = some (.string T) ∧ ww.cell? ⟨w6.heap.size, 1, none⟩ = some (.int .i64 PL) ∧ ww.cell? ⟨w6.heap.size, 2, none⟩ = some (.int .i64 PA) ∧ ww.cell? ⟨w6.heap.size, 3, none⟩ = some (.int .i64 0) ∧ ww.cell? ⟨w6.heap.size, 4, none⟩ = some (.bool false)) (exact qK) ((go_at_call 18; refine (HS9.out _ (StF.firm _ _ S9 qB)).mono ?_; rintro r10 w10 ⟨rfl, h10⟩; obtain ⟨hc10, hf10, hz10⟩ := qb h10; (try simp at hz10); (try have ⟨hl10_0, hk10_0⟩ := qL w6.heap.size w10.heap.size)))
  go_wp2
  go_ret
  refine ⟨rfl, ?_⟩
  repeat exact qB
 ·
  subst hO
  have hn0 : n9 = 0 := by rw [hO9, if_neg qd]
  subst hn0
  rw [hT] at hj d1 d3
  have hcs := cutS_size (Nat.le_of_lt hij) hj
  have hcb := cut_back (Nat.le_of_lt hij) hj
  have hrs : (T.extract i j).size = j - i := by rw [ByteArray.size_extract]; omega
  have hkp : kpx pq x = (pq.t, mkS pq.t pq.now :: x.2.1, []) := if_neg (by
   intro e
   have e2 : (cutS T i j).size = T.size := by rw [← d1, e, hw9, hnw]
   omega)
  have hun : (wlkN (min 1 (kpx pq x).2.1.length) (kpx pq x)).1 = T := by
   rw [hkp]
   show (wlkN (min 1 (x.2.1.length + 1)) (pq.t, mkS pq.t pq.now :: x.2.1, [])).1 = T
   rw [show min 1 (x.2.1.length + 1) = 1 by omega]
   show app pq.t (mkS pq.t pq.now) = T
   rw [app_mkS, hw9, hnw]
  have HS9 : Hid (∀ ww, StF t w8 O2 b r d m N9 { pq with now := pq.t, back := bk, forth := fo } f9 (kpx pq x) ww → qC 18 #[.pointer (some ⟨q, 0, none⟩)] ww (.agg #[.string (cutS T i j), .int .i64 pq.pl, .int .i64 pq.anchor, .int .i64 0, .bool false])) := by
   intro ww hS
   have := hS.state (CQ2.out _ hS.up)
   rw [waits_none (nn_with hn9)] at this
   have h5 : qC 18 #[.pointer (some ⟨q, 0, none⟩)] ww (.agg #[.string pq.t, .int .i64 pq.pl, .int .i64 pq.anchor, .int .i64 pq.mode, .bool false]) := this
   rw [d1, d2] at h5
   exact h5
  have HR9 : Hid (∀ ww, StF t w8 O2 b r d m N9 { pq with now := pq.t, back := bk, forth := fo } f9 (kpx pq x) ww → qC 20 #[.pointer (some ⟨q, 0, none⟩), .int .u8 34] ww (.tuple #[.string (T.extract i j), .bool false])) := fun ww hS => hS.reg (CQ2.out _ hS.up) d3
  have HY9 : Hid (∀ ww, StF t w8 O2 b r d m N9 { pq with now := pq.t, back := bk, forth := fo } f9 (kpx pq x) ww → Calls Tryz.prog 17 #[.pointer (some ⟨q, 0, none⟩), .string ⟨#[117]⟩] ww fun e w' => ∃ n : Nat, e = .returned (.int .i64 n) ∧ ∃ (p2 : Pg) (f2 : Int → Value) (y : Hst), p2.t = T ∧ StF t w8 O2 b r d m (N9 + 1) p2 f2 y w') := by
   intro ww hS
   refine Calls.mono (uType X2 q N9 qo (kpx pq x) ww (CQ2.out _ hS.up) (StU.of hS d2 (nn_with hn9))) ?_
   rintro e w' ⟨rfl, p2, ⟨f2, U⟩, a1, a2⟩
   have U : StF t w8 O2 b r d m (N9 + 1) p2 f2 (wlkN (min 1 (kpx pq x).2.1.length) (kpx pq x)) w' := U
   refine ⟨(if (kpx pq x).2.1.length = 0 then 1 else 0), ?_, p2, f2, _, (U.txt (by rw [a1]; decide)).1.trans hun, U⟩
   split <;> rfl
  have HF : Hid (∀ ww (p2 : Pg) (f2 : Int → Value) (y : Hst), p2.t = T → StF t w8 O2 b r d m (N9 + 1) p2 f2 y ww → qC 18 #[.pointer (some ⟨q, 0, none⟩)] ww (.agg #[.string T, .int .i64 p2.pl, .int .i64 p2.anchor, .int .i64 p2.mode, .bool (waits p2)])) := by
   intro ww p2 f2 y e hS
   have := hS.state (CQ2.out _ hS.up)
   rw [e] at this
   exact this
  generalize hP9 : ({ pq with now := pq.t, back := bk, forth := fo } : Pg) = P9 at *
  generalize hC : cutS T i j = C at *
  generalize hRr : T.extract i j = Rr at *
  generalize kpx pq x = Y at *
  have hiC : i ≤ C.size := by omega
  have hsum : ((C.size : Nat) : Int) + ((Rr.size : Nat) : Int) = ((T.size : Nat) : Int) := by omega
  have hw1 : IntKind.i64.wrap (((C.size : Nat) : Int) + ((Rr.size : Nat) : Int)) = ((C.size : Nat) : Int) + ((Rr.size : Nat) : Int) := by unfold IntKind.wrap; simp [IntKind.bits, IntKind.signed]; omega
  clear hO9 d1 d2 d3 hT hPL hPA hn hm hw9 hnw hxT hn9 X2 o1 wb qb' hx hkp hun hP9 hC hRr hcs hrs hij hj
  go_wp2_with fail
  refine Calls.mono (HS9.out _ S9) ?_
  rintro e w10 ⟨rfl, g10⟩
  have S10 := StF.firm _ _ S9 g10
  have z10 := g10.size
  have HRx := HR9.out
  clear HS9 s0 s1 s2 s3 s4 S9 g10
  go_wp2_with fail
  refine Calls.mono (HR9.out _ (StF.firm _ _ S10 qB)) ?_
  rintro e w11 ⟨rfl, g11⟩
  have S11 : StF t w8 O2 b r d m N9 P9 f9 Y w11 := StF.firm _ _ (StF.firm _ _ S10 qB) g11
  have z11 := g11.size
  simp at z11
  have m0 : w11.cell? ⟨w10.heap.size, 0, none⟩ = some (.string C) := memLater g11 qi
  have s0 := (WQ.out _ S11.up).1
  have hl11 : w10.heap.size < w11.heap.size := by omega
  have hl6 : w6.heap.size < w11.heap.size := by omega
  clear HR9 HRx S10 g11
  go_wp2
  go_loopw [14, 15] (fun fo a wr => ∃ (k : Nat) (B : Bool), k ≤ C.size + 1 ∧ fo = .bool B ∧ a = .int .i64 k ∧ Below w11.heap.size w11 wr ∧ (i < k → B = true)) (fun _ a _ => C.size + 1 - (intOf a).toNat)
  case atStart => exact ⟨0, false, Nat.zero_le _, rfl, rfl, Below.refl _ _, fun h => absurd h (Nat.not_lt_zero _)⟩
  case round =>
   obtain ⟨k, B, hk9, rfl, rfl, Bw, hB⟩ := hrel
   have m1 := memLater Bw m0
   have s1 := memLater Bw s0
   have zw2 := Bw.size
   have lw1 : w10.heap.size < wr.heap.size := by omega
   have lw2 : w6.heap.size < wr.heap.size := by omega
   by_cases hle : k ≤ C.size
   ·have i1 : ((k : Nat) : Int) ≤ ((C.size : Nat) : Int) := by omega
    cases B with
    | true =>
     have HBw : Hid (Below w11.heap.size w11 wr) := Bw
     clear Bw hB
     go_wp2
     go_quiet (fail)
     go_wp2
     go_round
     case rel => exact ⟨k + 1, true, by omega, rfl, by go_num, below_drewN HBw.out _, fun _ => rfl⟩
     case measure => simp [intOf] <;> omega
    | false =>
     have hki : ¬ i < k := fun h => by have := hB h; cases this
     have HBw : Hid (Below w11.heap.size w11 wr) := Bw
     have HB0 : ∃ B0 : Bool, ((C.extract 0 k ++ Rr ++ C.extract k C.size).toList == T.toList) = B0 ∧ (i < k + 1 → B0 = true) := by
      by_cases h : k = i
      ·refine ⟨true, ?_, fun _ => rfl⟩
       rw [h, hcb]
       simp
      ·exact ⟨_, rfl, fun h2 => by omega⟩
     obtain ⟨B0, hB0, hB1⟩ := HB0
     have HB1 : Hid (i < k + 1 → B0 = true) := hB1
     have i0 : (0 : Int) ≤ ((k : Nat) : Int) := by omega
     have i3 : ((C.size : Nat) : Int) ≤ ((C.size : Nat) : Int) := by omega
     clear Bw hB hB1 hcb
     go_wp2
     go_quiet (fail)
     go_wp2
     go_round
     case rel => exact ⟨k + 1, B0, by omega, rfl, by go_num, below_drewN HBw.out _, HB1.out⟩
     case measure => simp [intOf] <;> omega
   ·have i1 : ¬ ((k : Nat) : Int) ≤ ((C.size : Nat) : Int) := by omega
    have hBt := hB qo
    subst hBt
    have Sr := StF.firm _ _ S11 Bw
    have z13 := Sr.up.size
    clear hB hcb s1 S11 m0 s0
    go_wp2_with fail
    refine Calls.mono (HY9.out _ Sr) ?_
    rintro e w12 ⟨n12, rfl, p2, f2, y2, ht2, S12⟩
    have z12 := S12.up.size
    have s0 := (WQ.out _ S12.up).1
    have B12 := BQ.out _ S12.up
    have hfd : ∀ ww : World, (Instr.field 32 (.agg #[.string T, .int .i64 p2.pl, .int .i64 p2.anchor, .int .i64 p2.mode, .bool (waits p2)]) 0).run Tryz.prog ww = .ok (.string T) ww := fun _ => by kernel_rfl
    have HF2 : Hid (∀ ww, StF t w8 O2 b r d m (N9 + 1) p2 f2 y2 ww → qC 18 #[.pointer (some ⟨q, 0, none⟩)] ww (.agg #[.string T, .int .i64 p2.pl, .int .i64 p2.anchor, .int .i64 p2.mode, .bool (waits p2)])) := fun ww hS => HF.out ww p2 f2 y2 ht2 hS
    have hl12 : w6.heap.size < w12.heap.size := by omega
    clear HY9 HF Sr Bw ht2 WQ BQ CQ2
    go_wp2_with fail
    go_region_held3 (fun ww => ww.cell? ⟨w6.heap.size, 0, none⟩ = some (.string T)) ((first | (go_simp; done) | (repeat exact qM))) ((go_at_call 18; refine (HF2.out _ (StF.firm _ _ S12 qB)).mono ?_; rintro r14 w14 ⟨rfl, h14⟩; obtain ⟨hc14, hf14, hz14⟩ := qb h14; (try simp at hz14); (try have ⟨hl14_0, hk14_0⟩ := qL w6.heap.size w14.heap.size)))
    go_wp2
    go_ret
    refine ⟨rfl, ?_⟩
    repeat exact qB
