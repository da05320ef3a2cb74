/- A part. -/
import Derived.Test.YtlendfhehhacpaaGreatU48
set_option linter.unusedVariables false
set_option linter.unusedSimpArgs false
set_option maxRecDepth 100000
set_option maxHeartbeats 8000000
namespace Go.Proofs.YtlendfhehhacpaaGreat
open Go.RowKit Nib Tryz
structure GoodL (t : ByteArray) (m : Nat) (p : Pg) : Prop where
 tx : p.t = t
 now : p.now = t
 ts : t.size ≤ 1000
 pl : p.pl ≤ t.size
 st : p.pl ≤ lst t p.pl
 an : p.anchor ≤ t.size
 mo : p.mode = 0 ∨ p.mode = 2 ∨ p.mode = 3
 n : p.n ≤ 99
 bh : p.behind ≤ 99
 vb : p.verb = 0 ∨ (p.verb = 121 ∧ p.mode = 0)
 pt : p.part = 0 ∨ isFind p.part = true ∨ p.part = 103
 fd : p.fnd = 0 ∨ isFind p.fnd = true
 rg : p.regs = .map (some m)
theorem cnt_le {p : Pg} (h1 : p.n ≤ 99) (h2 : p.behind ≤ 99) : cnt p ≤ 99 := by
 unfold cnt
 split
 ·rename_i h; rcases h with h | h <;> omega
 ·omega
def LB (r d m : Nat) (t : ByteArray) (a c : Int) (ww : World) : Prop := ∃ p f, RdAt ww r d p ∧ RgAt ww m f ∧ GoodL t m p ∧ p.fnd = a ∧ p.findC = c
theorem LB.firm {r d m : Nat} {t : ByteArray} {a c : Int} : Firm (LB r d m t a c) := fun _ _ ⟨p, f, h1, h2, h3⟩ hb => ⟨p, f, h1.below hb, h2.below hb, h3⟩
theorem LB.find {r d m : Nat} {t : ByteArray} {a c : Int} : HasF (LB r d m t a c) r d a c := fun _ ⟨_, _, h1, _, _, h4, h5⟩ => ⟨h1.bg.c0, h4 ▸ h1.dk.c8, h5 ▸ h1.dk.c9⟩
abbrev LA (r d m : Nat) (p : Pg) (f : Int → Value) : World → Prop := fun ww => RdAt ww r d p ∧ RgAt ww m f
theorem LA.firm {r d m : Nat} {p : Pg} {f : Int → Value} : Firm (LA r d m p f) := Firm.and Firm.rg
theorem GivesB.of_R {fn : Nat} {args : Array Value} {r d m : Nat} {p p2 : Pg} {O : Int} {t : ByteArray} {f : Int → Value} (h : ∀ ww, RdAt ww r d p → Calls Tryz.prog fn args ww fun e w' => e = .returned (.int .i64 O) ∧ RdAt w' r d p2 ∧ Upd [r, d] ww w') (hg : GoodL t m p2) (mr : m ≠ r) (md : m ≠ d) :
  GivesB fn args (LA r d m p f) (LB r d m t p2.fnd p2.findC) O [r, d, m] :=
 fun ww hh => Calls.mono (h ww hh.1) (fun _ _ ⟨a, b, c⟩ => ⟨a, ⟨p2, f, b, hh.2.upd c (by simp [mr, md]), hg, rfl, rfl⟩, c.mono qi⟩)
theorem mDo_nothing (v : Int) (r : Nat) (i : Int) (w : World) (hv : ¬ v = 99) :
  qC 146 #[.pointer (some ⟨r, 0, none⟩), .int .u8 v, .agg #[.int .i64 i, .int .i64 i, .bool false]] w (.int .i64 4) := by
 have HN : qH 172 #[.agg #[.int .i64 i, .int .i64 i, .bool false]] (.bool true) := by
  intro ww
  have := tNothing_any i i false ww
  rw [show ((i == i) && !false) = true by simp] at this
  exact this
 have v99 : (v == 99) = false := by simp [hv]
 have v99' : (v != 99) = true := by simp [hv]
 clear hv
 go_enter func146, ntmps146
 go_wp2_with fail
 refine (HN.out _).mono ?_
 rintro e w1 ⟨rfl, h1⟩
 obtain ⟨hc1, hf1, hz1⟩ := qb h1
 try simp at hz1
 go_wp2
 go_ret
 refine ⟨rfl, ?_⟩
 repeat exact qB
theorem GoodL.done {t : ByteArray} {m : Nat} {p : Pg} (h : GoodL t m p) (q : Nat) (hq : q ≤ t.size) : GoodL t m { p with t := t, mode := 0, anchor := 0, pl := clm t q } :=
 ⟨rfl, h.now, h.ts, clm_in hq, clm_settled hq, Nat.zero_le _, Or.inl rfl, h.n, h.bh, by
  rcases h.vb with v | v
  ·exact Or.inl v
  ·exact Or.inr ⟨v.1, rfl⟩, h.pt, h.fd, h.rg⟩
theorem lDo (r d m : Nat) (p : Pg) (f : Int → Value) (t : ByteArray) (i j : Nat) (l : Bool) (hg : GoodL t m p) (mr : m ≠ r) (md : m ≠ d) (hij : i ≤ j) (hj : j ≤ t.size) :
  ∃ O, (O = 1 ∨ O = 4) ∧ GivesB 146 #[.pointer (some ⟨r, 0, none⟩), .int .u8 121, .agg #[.int .i64 i, .int .i64 j, .bool l]] (LA r d m p f) (LB r d m t p.fnd p.findC) O [d, m] := by
 by_cases hne : i = j ∧ l = false
 ·obtain ⟨rfl, rfl⟩ := hne
  refine ⟨4, Or.inr rfl, fun ww hh => Calls.mono (mDo_nothing 121 r i ww qd) ?_⟩
  rintro e w' ⟨rfl, hb⟩
  exact ⟨rfl, ⟨p, f, hh.1.below hb, hh.2.below hb, hg, rfl, rfl⟩, Upd.of_below hb⟩
 ·obtain ⟨q, hq, HB⟩ : ∃ q : Nat, q ≤ t.size ∧ ∀ ww, qC 221 #[.string t, .agg #[.int .i64 i, .int .i64 j, .bool l], .int .i64 p.pl] ww (.int .i64 q) := by
   cases l with
   | false => exact ⟨i, by omega, fun ww => vBack_piece t i j p.pl ww⟩
   | true =>
    have h1 := beg_le t i
    have h2 := fin_le (s := t) (p := i) qo
    have h3 := beg_le t p.pl
    have h4 := hg.pl
    have h5 := fin_ge t i
    refine ⟨(if beg t i = beg t p.pl ∧ fin t i = fin t p.pl then (p.pl : Int) else min (beg t i + (p.pl - beg t p.pl)) (max (beg t i) (fin t i - 1))).toNat, ?_, fun ww => ?_⟩
    ·split <;> omega
    ·have := vBack_lines t i p.pl j ww hg.ts qo hg.pl
     rw [show (((if beg t i = beg t p.pl ∧ fin t i = fin t p.pl then (p.pl : Int) else min (beg t i + (p.pl - beg t p.pl)) (max (beg t i) (fin t i - 1))).toNat : Nat) : Int) = (if beg t i = beg t p.pl ∧ fin t i = fin t p.pl then (p.pl : Int) else min (beg t i + (p.pl - beg t p.pl)) (max (beg t i) (fin t i - 1))) by split <;> omega]
     exact this
  refine ⟨1, Or.inl rfl, fun ww hh => ?_⟩
  have ht := hg.tx
  have HD : ∀ ww, qC 174 #[.int .u8 121, .string p.t, .agg #[.int .i64 i, .int .i64 j, .bool l], .int .i64 p.pl] ww (.tuple #[.string t, .int .i64 q]) := by
   intro ww
   rw [ht]
   exact vDo_copy t i j p.pl q l ww HB
  refine Calls.mono (mDo_write 121 r d m p i j l t q f ww hh.1 hh.2 hg.rg mr md (by rw [ht]; exact hg.ts) hg.ts hij (by rw [ht]; exact hj) hne hq (Or.inr rfl) HD) ?_
  rintro e w' ⟨rfl, h1, h2, h3⟩
  exact ⟨rfl, ⟨_, _, h1, h2, hg.done q hq, rfl, rfl⟩, h3⟩
theorem lArrive (r d m : Nat) (p : Pg) (f : Int → Value) (t : ByteArray) (R : Int × Int × Bool) (hg : GoodL t m p) (mr : m ≠ r) (md : m ≠ d) (rd : r ≠ d) (hv : p.verb = 121) (hR : R.2.2 = false → Takes t p.pl R) :
  ∃ O, (O = 1 ∨ O = 4) ∧ GivesB 166 #[.pointer (some ⟨r, 0, none⟩), .agg #[.int .i64 (wayX R), .int .i64 (wayK R)], .bool (wayZ R)] (LA r d m p f) (LB r d m t p.fnd p.findC) O [r, d, m] := by
 cases hz : R.2.2 with
 | true =>
  have e3 : wayZ R = false := by simp [wayZ, hz]
  refine ⟨4, Or.inr rfl, fun ww hh => ?_⟩
  rw [e3]
  refine Calls.mono (mArrive_fail r (wayX R) (wayK R) (LA r d m p f) [r, d, m] ww hh LA.firm) ?_
  rintro e w' ⟨rfl, h1, h2⟩
  exact ⟨rfl, ⟨p, f, h1.1, h1.2, hg, rfl, rfl⟩, h2⟩
 | false =>
  obtain ⟨q, hq1, hq2, hq3⟩ := hR hz
  have e1 : wayX R = q := by simp [wayX, hz, hq1]
  have e2 : wayK R = R.2.1 := by simp [wayK, hz]
  have e3 : wayZ R = true := by simp [wayZ, hz]
  have ht := hg.tx
  obtain ⟨i, j, l, hij, hj, HK⟩ : ∃ (i j : Nat) (l : Bool), i ≤ j ∧ j ≤ t.size ∧ ∀ ww, qC 203 #[.agg #[.string t, .int .i64 (p.pl), .int .i64 (cnt p), .bool true, .bool false], .agg #[.int .i64 q, .int .i64 R.2.1]] ww (.agg #[.int .i64 i, .int .i64 j, .bool l]) := by
   have hpl := hg.pl
   have hts := hg.ts
   rcases hq3 with hk | ⟨hk, k1, k2⟩ | hk
   ·refine ⟨min p.pl q, max p.pl q, false, by omega, by omega, fun ww => ?_⟩
    rw [hk]
    have := sTaken_out t p.pl (cnt p) q true false ww
    rw [show min (p.pl : Int) q = ((min p.pl q : Nat) : Int) by omega, show max (p.pl : Int) q = ((max p.pl q : Nat) : Int) by omega] at this
    exact this
   ·refine ⟨min p.pl q, max p.pl q + 1, false, by omega, by omega, fun ww => ?_⟩
    rw [hk]
    have := sTaken_in t p.pl (cnt p) q true false ww qo qo
    rw [show min (p.pl : Int) q = ((min p.pl q : Nat) : Int) by omega, show max (p.pl : Int) q + 1 = ((max p.pl q + 1 : Nat) : Int) by omega] at this
    exact this
   ·have h1 := fin_le hpl
    have h2 := fin_le hq2
    have h3 := fin_ge t p.pl
    have h4 := beg_le t p.pl
    refine ⟨min (beg t p.pl) (beg t q), max (fin t p.pl) (fin t q), true, by omega, by omega, fun ww => ?_⟩
    rw [hk]
    have := sTaken_lines t p.pl q (cnt p) true false ww hts hpl hq2
    rw [show min (beg t p.pl : Int) (beg t q) = ((min (beg t p.pl) (beg t q) : Nat) : Int) by omega, show max (fin t p.pl : Int) (fin t q) = ((max (fin t p.pl) (fin t q) : Nat) : Int) by omega] at this
    exact this
  obtain ⟨O, hO, HD⟩ := lDo r d m p f t i j l hg mr md hij hj
  refine ⟨O, hO, fun ww hh => ?_⟩
  rw [e1, e2, e3]
  refine Calls.mono (mArrive_verb r d p q R.2.1 O i j l (LA r d m p f) (LB r d m t p.fnd p.findC) [d, m] ww hh LA.firm LB.firm (fun _ h => h.1) (by simp [rd, mr.symm]) (by intro k hk; simp at hk; rcases hk with hk | hk; (rw [hk]; exact hh.1.dk.lt); (rw [hk]; exact hh.2.lt)) hg.n hg.bh (by rw [hv]; decide) (by rw [hv, ht]; exact HK) (by rw [hv]; exact HD)) ?_
  rintro e w' ⟨h0, h1, h2⟩
  exact ⟨h0, h1, h2.mono qi⟩
theorem Firm.drewAt {A : World → Prop} {w : World} (fA : Firm A) (h : A w) : A w.drew := fA _ _ h (Below.refl _ _).drew
theorem Firm.belowAt {A : World → Prop} {w w' : World} (fA : Firm A) (hb : Below w.heap.size w w') (h : A w) : A w' := fA _ _ h hb
theorem qt24 {P : Prop} (h : P := by
  go_wp2
  go_ret
  refine ⟨rfl, ?_, ?_⟩
  ·exact (fB _ _ h3 qB)
  ·repeat (with_reducible first | exact Upd.refl _ _ | refine Upd.trans ?_ u3 | refine Upd.below ?_ h2 | refine Upd.below ?_ h1 | refine Upd.setCell ?_ (Or.inl hd) _ | refine Upd.drew ?_ | refine Upd.alloc ?_ _)
 ) : P := h
theorem mComplete_findB (r d : Nat) (p : Pg) (key X K O : Int) (Z : Bool) (A A1 B : World → Prop) (T : List Nat) (w : World) (hA : A w) (fA : Firm A) (fA1 : Firm A1) (fB : Firm B) (hr : HasR A r d p) (hr1 : HasR A1 r d { p with fnd := p.part, findC := key }) (hf : HasF B r d p.part key) (hd : d ∈ T) (hn : p.n ≤ 99) (hb : p.behind ≤ 99) (hp : isFind p.part = true)
  (HP : Hid (∀ ww, A ww → A1 ((ww.setCell ⟨d, 8, none⟩ (.int .u8 p.part)).setCell ⟨d, 9, none⟩ (.int .u8 key))))
  (HG : qH 167 #[.agg #[.int .u8 p.part, .int .u8 key], .agg #[.string p.t, .int .i64 (p.pl), .int .i64 (cnt p), .bool (p.verb != 0), .bool (p.verb == 99)]] (.tuple #[.agg #[.int .i64 X, .int .i64 K], .bool Z]))
  (HA : GivesB 166 #[.pointer (some ⟨r, 0, none⟩), .agg #[.int .i64 X, .int .i64 K], .bool Z] A1 B O T) :
  Calls Tryz.prog 145 #[.pointer (some ⟨r, 0, none⟩), .int .u8 key] w fun e w' => e = .returned (.int .i64 O) ∧ B w' ∧ Upd T w w' := by
 have HS : Hid (∀ ww, A1 ww → qC 168 #[.pointer (some ⟨r, 0, none⟩)] ww (.agg #[.string p.t, .int .i64 (p.pl), .int .i64 (cnt p), .bool (p.verb != 0), .bool (p.verb == 99)])) := fun ww hh => mStart r d { p with fnd := p.part, findC := key } ww (hr1 ww hh) hn hb
 have h := hr w hA
 obtain ⟨c0, c1, c2, c3, c4, c5, c6, c7, c8, c9, fz, lt⟩ := h.dk
 obtain ⟨b0, b1, b2, b3, b4, b5, bz, bl⟩ := h.bg
 have nrd1 : ¬ r = d := h.ne
 have nrd2 : ¬ d = r := Ne.symm h.ne
 clear c0 c1 c2 c3 c4 c5 c6 c7 b1 b2 b3 b4 h hr1 hr
 simp only [isFind, Bool.or_eq_true, beq_iff_eq] at hp
 generalize p.part = part at *
 generalize p.t = TT at *
 generalize p.pl = PL at *
 generalize cnt p = N at *
 generalize (p.verb != 0) = V at *
 generalize (p.verb == 99) = C at *
 rcases hp with ((hp | hp) | hp) | hp
 ·subst hp
  go_enter func145, ntmps145
  go_wp2_with fail
  go_region_held3 (fun ww => ww.cell? ⟨r, 0, none⟩ = some (.pointer (some ⟨d, 0, none⟩)) ∧ ww.cell? ⟨r, 5, none⟩ = some (.int .u8 102)) (exact qK) (fail)
  go_wp2_with fail
  go_region_held3 (fun ww => ww.cell? ⟨r, 0, none⟩ = some (.pointer (some ⟨d, 0, none⟩)) ∧ ww.cell? ⟨d, 8, none⟩ = some (.int .u8 102) ∧ ww.cell? ⟨d, 9, none⟩ = some (.int .u8 key)) (exact qK) (first | (go_at_call 168; refine Calls.mono (HS.out _ (by (repeat (with_reducible first | exact hA | refine HP.out _ ?_ | refine fA1.drewAt ?_ | refine fA.drewAt ?_)))) ?_; rintro r1 w1 ⟨rfl, h1⟩; have hz1 := h1.size; (try simp at hz1); (try have ⟨hl1_0, hk1_0⟩ := qL d w1.heap.size); (try have ⟨hl1_1, hk1_1⟩ := qL r w1.heap.size)) | (go_at_call 167; refine Calls.mono (HG.out _) ?_; rintro r2 w2 ⟨rfl, h2⟩; have hz2 := h2.size; (try simp at hz2); (try have ⟨hl2_0, hk2_0⟩ := qL d w2.heap.size); (try have ⟨hl2_1, hk2_1⟩ := qL r w2.heap.size)) | (go_at_call 166; refine Calls.mono (HA.out _ (by (repeat (with_reducible first | exact hA | refine HP.out _ ?_ | refine fA1.belowAt h2 ?_ | refine fA1.belowAt h1 ?_ | refine fA1.drewAt ?_ | refine fA.drewAt ?_)))) ?_; rintro r3 w3 ⟨rfl, h3, u3⟩; have hz3 := u3.size; (try simp at hz3); obtain ⟨g0, g8, g9⟩ := hf w3 h3))
  exact qt24
 ·subst hp
  go_enter func145, ntmps145
  go_wp2_with fail
  go_region_held3 (fun ww => ww.cell? ⟨r, 0, none⟩ = some (.pointer (some ⟨d, 0, none⟩)) ∧ ww.cell? ⟨r, 5, none⟩ = some (.int .u8 116)) (exact qK) (fail)
  go_wp2_with fail
  go_region_held3 (fun ww => ww.cell? ⟨r, 0, none⟩ = some (.pointer (some ⟨d, 0, none⟩)) ∧ ww.cell? ⟨d, 8, none⟩ = some (.int .u8 116) ∧ ww.cell? ⟨d, 9, none⟩ = some (.int .u8 key)) (exact qK) (first | (go_at_call 168; refine Calls.mono (HS.out _ (by (repeat (with_reducible first | exact hA | refine HP.out _ ?_ | refine fA1.drewAt ?_ | refine fA.drewAt ?_)))) ?_; rintro r1 w1 ⟨rfl, h1⟩; have hz1 := h1.size; (try simp at hz1); (try have ⟨hl1_0, hk1_0⟩ := qL d w1.heap.size); (try have ⟨hl1_1, hk1_1⟩ := qL r w1.heap.size)) | (go_at_call 167; refine Calls.mono (HG.out _) ?_; rintro r2 w2 ⟨rfl, h2⟩; have hz2 := h2.size; (try simp at hz2); (try have ⟨hl2_0, hk2_0⟩ := qL d w2.heap.size); (try have ⟨hl2_1, hk2_1⟩ := qL r w2.heap.size)) | (go_at_call 166; refine Calls.mono (HA.out _ (by (repeat (with_reducible first | exact hA | refine HP.out _ ?_ | refine fA1.belowAt h2 ?_ | refine fA1.belowAt h1 ?_ | refine fA1.drewAt ?_ | refine fA.drewAt ?_)))) ?_; rintro r3 w3 ⟨rfl, h3, u3⟩; have hz3 := u3.size; (try simp at hz3); obtain ⟨g0, g8, g9⟩ := hf w3 h3))
  exact qt24
 ·subst hp
  go_enter func145, ntmps145
  go_wp2_with fail
  go_region_held3 (fun ww => ww.cell? ⟨r, 0, none⟩ = some (.pointer (some ⟨d, 0, none⟩)) ∧ ww.cell? ⟨r, 5, none⟩ = some (.int .u8 70)) (exact qK) (fail)
  go_wp2_with fail
  go_region_held3 (fun ww => ww.cell? ⟨r, 0, none⟩ = some (.pointer (some ⟨d, 0, none⟩)) ∧ ww.cell? ⟨d, 8, none⟩ = some (.int .u8 70) ∧ ww.cell? ⟨d, 9, none⟩ = some (.int .u8 key)) (exact qK) (first | (go_at_call 168; refine Calls.mono (HS.out _ (by (repeat (with_reducible first | exact hA | refine HP.out _ ?_ | refine fA1.drewAt ?_ | refine fA.drewAt ?_)))) ?_; rintro r1 w1 ⟨rfl, h1⟩; have hz1 := h1.size; (try simp at hz1); (try have ⟨hl1_0, hk1_0⟩ := qL d w1.heap.size); (try have ⟨hl1_1, hk1_1⟩ := qL r w1.heap.size)) | (go_at_call 167; refine Calls.mono (HG.out _) ?_; rintro r2 w2 ⟨rfl, h2⟩; have hz2 := h2.size; (try simp at hz2); (try have ⟨hl2_0, hk2_0⟩ := qL d w2.heap.size); (try have ⟨hl2_1, hk2_1⟩ := qL r w2.heap.size)) | (go_at_call 166; refine Calls.mono (HA.out _ (by (repeat (with_reducible first | exact hA | refine HP.out _ ?_ | refine fA1.belowAt h2 ?_ | refine fA1.belowAt h1 ?_ | refine fA1.drewAt ?_ | refine fA.drewAt ?_)))) ?_; rintro r3 w3 ⟨rfl, h3, u3⟩; have hz3 := u3.size; (try simp at hz3); obtain ⟨g0, g8, g9⟩ := hf w3 h3))
  exact qt24
 ·subst hp
  go_enter func145, ntmps145
  go_wp2_with fail
  go_region_held3 (fun ww => ww.cell? ⟨r, 0, none⟩ = some (.pointer (some ⟨d, 0, none⟩)) ∧ ww.cell? ⟨r, 5, none⟩ = some (.int .u8 84)) (exact qK) (fail)
  go_wp2_with fail
  go_region_held3 (fun ww => ww.cell? ⟨r, 0, none⟩ = some (.pointer (some ⟨d, 0, none⟩)) ∧ ww.cell? ⟨d, 8, none⟩ = some (.int .u8 84) ∧ ww.cell? ⟨d, 9, none⟩ = some (.int .u8 key)) (exact qK) (first | (go_at_call 168; refine Calls.mono (HS.out _ (by (repeat (with_reducible first | exact hA | refine HP.out _ ?_ | refine fA1.drewAt ?_ | refine fA.drewAt ?_)))) ?_; rintro r1 w1 ⟨rfl, h1⟩; have hz1 := h1.size; (try simp at hz1); (try have ⟨hl1_0, hk1_0⟩ := qL d w1.heap.size); (try have ⟨hl1_1, hk1_1⟩ := qL r w1.heap.size)) | (go_at_call 167; refine Calls.mono (HG.out _) ?_; rintro r2 w2 ⟨rfl, h2⟩; have hz2 := h2.size; (try simp at hz2); (try have ⟨hl2_0, hk2_0⟩ := qL d w2.heap.size); (try have ⟨hl2_1, hk2_1⟩ := qL r w2.heap.size)) | (go_at_call 166; refine Calls.mono (HA.out _ (by (repeat (with_reducible first | exact hA | refine HP.out _ ?_ | refine fA1.belowAt h2 ?_ | refine fA1.belowAt h1 ?_ | refine fA1.drewAt ?_ | refine fA.drewAt ?_)))) ?_; rintro r3 w3 ⟨rfl, h3, u3⟩; have hz3 := u3.size; (try simp at hz3); obtain ⟨g0, g8, g9⟩ := hf w3 h3))
  exact qt24
