/- A part. -/
import Derived.Test.YtlendfhehhacpaaGreatT50
import Derived.Test.YtlendfhehhacpaaGreatT46
import Derived.Test.YtlendfhehhacpaaGreatT43
import Derived.Test.YtlendfhehhacpaaGreatT48
import Derived.Test.YtlendfhehhacpaaGreatT45
import Derived.Test.YtlendfhehhacpaaGreatT44
set_option linter.unusedVariables false
set_option linter.unusedSimpArgs false
set_option maxRecDepth 100000
set_option maxHeartbeats 8000000
namespace Go.Proofs.YtlendfhehhacpaaGreat
open Go.RowKit Nib Tryz
def FV (p : Pg) (O : Int) (p2 : Pg) : Prop := (O = 4 → p2.t = p.t ∧ p2.pl = p.pl ∧ p2.anchor = p.anchor) ∧ (isV5 p.verb → O = 2 ∨ O = 4) ∧ (¬ p.verb = 0 → O = 4 ∨ p2.mode = 0 ∨ p2.mode = 1)
structure Did (p : Pg) (f : Int → Value) (fn : Nat) (args : Nat → Array Value) (O : Int) (p2 : Pg) (f2 : Int → Value) (i : Prop) : Prop where
 o : O = 1 ∨ O = 2 ∨ O = 4
 g : GoodP p2
 gf : GoodF f2
 k : p2.now = p.now ∧ p2.back = p.back ∧ p2.forth = p.forth
 e : O = 4 → p2.mode = p.mode
 i : ¬ O = 4 → (p2.mode = 1 ↔ i)
 s : FV p O p2
 c : ∀ r d m (a : Ptr), m ≠ r → m ≠ d → r ≠ d → a.1 = .map (some m) → GivesB fn (args r) (LA r d m (p.w a) f) (LA r d m (p2.w a) f2) O [r, d, m]
theorem GivesB.more {fn : Nat} {args : Array Value} {A B : World → Prop} {O : Int} {r d m : Nat} (h : GivesB fn args A B O [d, m]) : GivesB fn args A B O [r, d, m] :=
 fun ww hh => Calls.mono (h ww hh) (fun _ _ ⟨x, y, z⟩ => ⟨x, y, z.mono qi⟩)
theorem GivesB.ofR {fn : Nat} {args : Array Value} {r d m : Nat} {p p2 : Pg} {O : Int} {f : Int → Value} (h : ∀ ww, RdAt ww r d p → Calls Tryz.prog fn args ww fun e w' => e = .returned (.int .i64 O) ∧ RdAt w' r d p2 ∧ Upd [r, d] ww w') (mr : m ≠ r) (md : m ≠ d) :
  GivesB fn args (LA r d m p f) (LA r d m p2 f) O [r, d, m] :=
 fun ww hh => Calls.mono (h ww hh.1) (fun _ _ ⟨a, b, c⟩ => ⟨a, ⟨b, hh.2.upd c (by simp [mr, md])⟩, c.mono qi⟩)
theorem GivesB.ofD {fn : Nat} {args : Array Value} {r d m : Nat} {p p2 : Pg} {O : Int} {f : Int → Value} (h : ∀ ww, RdAt ww r d p → Calls Tryz.prog fn args ww fun e w' => e = .returned (.int .i64 O) ∧ RdAt w' r d p2 ∧ Upd [d] ww w') (mr : m ≠ r) (md : m ≠ d) :
  GivesB fn args (LA r d m p f) (LA r d m p2 f) O [r, d, m] := GivesB.ofR (fun ww hh => Calls.mono (h ww hh) (fun _ _ ⟨a, b, c⟩ => ⟨a, b, c.mono qi⟩)) mr md
theorem GivesB.ofr {fn : Nat} {args : Array Value} {r d m : Nat} {p p2 : Pg} {O : Int} {f : Int → Value} (h : ∀ ww, RdAt ww r d p → Calls Tryz.prog fn args ww fun e w' => e = .returned (.int .i64 O) ∧ RdAt w' r d p2 ∧ Upd [r] ww w') (mr : m ≠ r) (md : m ≠ d) :
  GivesB fn args (LA r d m p f) (LA r d m p2 f) O [r, d, m] := GivesB.ofR (fun ww hh => Calls.mono (h ww hh) (fun _ _ ⟨a, b, c⟩ => ⟨a, b, c.mono qi⟩)) mr md
theorem GivesB.ofW {fn : Nat} {args : Array Value} {r d m : Nat} {p : Pg} {O : Int} {f : Int → Value} (h : ∀ ww, RdAt ww r d p → qC fn args ww (.int .i64 O)) :
  GivesB fn args (LA r d m p f) (LA r d m p f) O [r, d, m] :=
 fun ww hh => Calls.mono (h ww hh.1) (fun _ _ ⟨a, b⟩ => ⟨a, ⟨hh.1.below b, hh.2.below b⟩, Upd.of_below b⟩)
theorem tl_of {r d m : Nat} {p : Pg} {f : Int → Value} {ww : World} (h : LA r d m p f ww) : ∀ k, k ∈ [d, m] → k < ww.heap.size := by
 intro k hk
 simp at hk
 rcases hk with hk | hk
 ·rw [hk]; exact h.1.dk.lt
 ·rw [hk]; exact h.2.lt
theorem sDoD (v : Int) (p : Pg) (f : Int → Value) (i j : Nat) (l : Bool) (hg : GoodP p) (hf : GoodF f) (hv : isVb v) (hij : i ≤ j) (hj : j ≤ p.t.size) :
  ∃ O p2 f2, (O = 1 ∨ O = 2 ∨ O = 4) ∧ GoodP p2 ∧ GoodF f2 ∧ (p2.now = p.now ∧ p2.back = p.back ∧ p2.forth = p.forth) ∧ (p2.fnd = p.fnd ∧ p2.findC = p.findC) ∧ (O = 4 → p2.mode = p.mode) ∧ (¬ O = 4 → (p2.mode = 1 ↔ v = 99)) ∧ ((O = 4 → p2.t = p.t ∧ p2.pl = p.pl ∧ p2.anchor = p.anchor) ∧ (isV5 v → O = 2 ∨ O = 4) ∧ (O = 4 ∨ p2.mode = 0 ∨ p2.mode = 1)) ∧ ∀ r d m (a : Ptr), m ≠ r → m ≠ d → a.1 = .map (some m) → GivesB 146 #[.pointer (some ⟨r, 0, none⟩), .int .u8 v, .agg #[.int .i64 i, .int .i64 j, .bool l]] (LA r d m (p.w a) f) (LA r d m (p2.w a) f2) O [d, m] := by
 obtain ⟨O, p2, f2, h1, h2, h3, ⟨t, pl, an, mo, e⟩, h5, h6, h8, h7⟩ := sDo v p f i j l hg hf hv hij hj
 refine ⟨O, p2, f2, h1, h2, h3, by rw [e]; exact ⟨rfl, rfl, rfl⟩, by rw [e]; exact ⟨rfl, rfl⟩, fun h => by rw [h5 h], fun h => ?_, ⟨fun h => by rw [h5 h]; exact ⟨rfl, rfl, rfl⟩, h8, ?_⟩, h7⟩
 ·rw [h6 h]
  split
  ·rename_i hh; simp [hh]
  ·rename_i hh; simp [hh]
 ·by_cases h : O = 4
  ·exact Or.inl h
  ·right
   rw [h6 h]
   split
   ·exact Or.inr rfl
   ·exact Or.inl rfl
theorem sArriveV (p : Pg) (f : Int → Value) (R : Int × Int × Bool) (hg : GoodP p) (hf : GoodF f) (hv : isVb p.verb) (hR : R.2.2 = false → Takes p.t p.pl R) :
  ∃ O p2 f2, (p2.fnd = p.fnd ∧ p2.findC = p.findC) ∧ Did p f 166 (fun r => #[.pointer (some ⟨r, 0, none⟩), .agg #[.int .i64 (wayX R), .int .i64 (wayK R)], .bool (wayZ R)]) O p2 f2 (p.verb = 99) := by
 have hv0 : ¬ p.verb = 0 := by unfold isVb at hv; omega
 cases hz : R.2.2 with
 | true =>
  have e3 : wayZ R = false := by simp [wayZ, hz]
  refine ⟨4, p, f, ⟨rfl, rfl⟩, Or.inr (Or.inr rfl), hg, hf, ⟨rfl, rfl, rfl⟩, fun _ => rfl, fun h => absurd rfl h, ⟨fun _ => ⟨rfl, rfl, rfl⟩, fun _ => Or.inr rfl, fun _ => Or.inl rfl⟩, ?_⟩
  rw [e3]
  exact fun r d m a _ _ _ _ ww hh => mArrive_fail r (wayX R) (wayK R) (LA r d m (p.w a) f) [r, d, m] ww hh LA.firm
 | false =>
  obtain ⟨q, hq1, hq2, hq3⟩ := hR hz
  have e1 : wayX R = q := by simp [wayX, hz, hq1]
  have e2 : wayK R = R.2.1 := by simp [wayK, hz]
  have e3 : wayZ R = true := by simp [wayZ, hz]
  obtain ⟨i, j, l, hij, hj, HK⟩ : ∃ (i j : Nat) (l : Bool), i ≤ j ∧ j ≤ p.t.size ∧ ∀ ww, qC 203 #[.agg #[.string p.t, .int .i64 (p.pl), .int .i64 (cnt p), .bool (p.verb != 0), .bool (p.verb == 99)], .agg #[.int .i64 q, .int .i64 R.2.1]] ww (.agg #[.int .i64 i, .int .i64 j, .bool l]) := by
   have hpl := hg.pl
   have hts := hg.ts
   rcases hq3 with hk | ⟨hk, k1, k2⟩ | hk
   ·refine ⟨min p.pl q, max p.pl q, false, by omega, by omega, fun ww => ?_⟩
    rw [hk]
    have := sTaken_out p.t p.pl (cnt p) q (p.verb != 0) (p.verb == 99) ww
    rw [show min (p.pl : Int) q = ((min p.pl q : Nat) : Int) by omega, show max (p.pl : Int) q = ((max p.pl q : Nat) : Int) by omega] at this
    exact this
   ·refine ⟨min p.pl q, max p.pl q + 1, false, by omega, by omega, fun ww => ?_⟩
    rw [hk]
    have := sTaken_in p.t p.pl (cnt p) q (p.verb != 0) (p.verb == 99) ww qo qo
    rw [show min (p.pl : Int) q = ((min p.pl q : Nat) : Int) by omega, show max (p.pl : Int) q + 1 = ((max p.pl q + 1 : Nat) : Int) by omega] at this
    exact this
   ·have h1 := fin_le hpl
    have h2 := fin_le hq2
    have h3 := fin_ge p.t p.pl
    have h4 := beg_le p.t p.pl
    refine ⟨min (beg p.t p.pl) (beg p.t q), max (fin p.t p.pl) (fin p.t q), true, by omega, by omega, fun ww => ?_⟩
    rw [hk]
    have := sTaken_lines p.t p.pl q (cnt p) (p.verb != 0) (p.verb == 99) ww hts hpl hq2
    rw [show min (beg p.t p.pl : Int) (beg p.t q) = ((min (beg p.t p.pl) (beg p.t q) : Nat) : Int) by omega, show max (fin p.t p.pl : Int) (fin p.t q) = ((max (fin p.t p.pl) (fin p.t q) : Nat) : Int) by omega] at this
    exact this
  obtain ⟨O, p2, f2, h1, h2, h3, h4, hfn, h5, h6, h8, h7⟩ := sDoD p.verb p f i j l hg hf hv hij hj
  refine ⟨O, p2, f2, hfn, h1, h2, h3, h4, h5, h6, ⟨h8.1, h8.2.1, fun _ => h8.2.2⟩, fun r d m a mr md rd ha ww hh => ?_⟩
  rw [e1, e2, e3]
  refine Calls.mono (mArrive_verb r d (p.w a) q R.2.1 O i j l (LA r d m (p.w a) f) (LA r d m (p2.w a) f2) [d, m] ww hh LA.firm LA.firm (fun _ h => h.1) (by simp [rd, mr.symm]) (tl_of hh) hg.n hg.bh hv0 HK (h7 r d m a mr md ha)) ?_
  rintro e w' ⟨h0, h1, h2⟩
  exact ⟨h0, h1, h2.mono qi⟩
theorem GoodP.arr {p : Pg} (h : GoodP p) (R : Int × Int × Bool) (hR : R.2.2 = false → 0 ≤ R.1 ∧ R.1 ≤ p.t.size) : GoodP (arrEd p R) := by
 unfold arrEd
 split
 ·exact h
 ·rename_i hz
  have hR' := hR (by cases hh : R.2.2 <;> simp_all)
  have hq : R.1.toNat ≤ p.t.size := by omega
  exact ⟨h.ts, clm_in hq, fun _ => clm_settled hq, h.an, h.mo, h.n, h.bh, h.fd⟩
theorem arrEd_all (p : Pg) (R : Int × Int × Bool) : (arrEd p R).now = p.now ∧ (arrEd p R).back = p.back ∧ (arrEd p R).forth = p.forth ∧ (arrEd p R).mode = p.mode := by unfold arrEd; split <;> exact ⟨rfl, rfl, rfl, rfl⟩
theorem arrEd_w (p : Pg) (R : Int × Int × Bool) (a : Ptr) : arrEd (p.w a) R = (arrEd p R).w a := by unfold arrEd; split <;> rfl
theorem arrEd_s {p p' : Pg} (R : Int × Int × Bool) (hv : p.verb = 0) (e1 : p'.t = p.t) (e2 : p'.pl = p.pl) (e3 : p'.anchor = p.anchor) : FV p (if R.2.2 = true then 4 else 1) (arrEd p' R) := by
 refine ⟨?_, fun h => by unfold isV5 at h; omega, fun h => absurd hv h⟩
 unfold arrEd
 split
 ·intro _; exact ⟨e1, e2, e3⟩
 ·intro h; exact absurd h qd
theorem sWay0 (HA : AnyOk) (p : Pg) (f : Int → Value) (key : Int) (hg : GoodP p) (hf : GoodF f) (hm : ¬ p.mode = 1) (hv : p.verb = 0) (hk1 : isFind key = false) (hk2 : ¬ key = 103) :
  ∃ O p2, Did p f 148 (fun r => #[.pointer (some ⟨r, 0, none⟩), .int .u8 key]) O p2 f False := by
 have hc := cnt_le hg.n hg.bh
 have hin : ∀ (k ch : Int) (given b : Bool), (goWay p.t p.pl k ch (max (cnt p) 1) given false b).2.2 = false → 0 ≤ (goWay p.t p.pl k ch (max (cnt p) 1) given false b).1 ∧ (goWay p.t p.pl k ch (max (cnt p) 1) given false b).1 ≤ p.t.size := fun k ch given b h => goWay_in k ch given b hg.pl qo h
 have mk : ∀ (R : Int × Int × Bool), (R.2.2 = false → 0 ≤ R.1 ∧ R.1 ≤ p.t.size) → (∀ r d (a : Ptr), GivesR 148 #[.pointer (some ⟨r, 0, none⟩), .int .u8 key] r d (p.w a) (arrEd (p.w a) R) (if R.2.2 = true then 4 else 1)) → ∃ O p2, Did p f 148 (fun r => #[.pointer (some ⟨r, 0, none⟩), .int .u8 key]) O p2 f False := by
  intro R hR h
  obtain ⟨a1, a2, a3, a4⟩ := arrEd_all p R
  refine ⟨_, arrEd p R, ?_, hg.arr R hR, hf, ⟨a1, a2, a3⟩, fun _ => a4, fun _ => by rw [a4]; simp [hm], arrEd_s R hv rfl rfl rfl, fun r d m a mr md rd ha => by have := GivesB.ofR (f := f) (h r d a) mr md; rw [arrEd_w] at this; exact this⟩
  split <;> simp
 by_cases h59 : key = 59
 ·subst h59
  have h : ∀ ww, qC 183 #[.agg #[.int .u8 p.fnd, .int .u8 p.findC], .agg #[.string p.t, .int .i64 (p.pl), .int .i64 (cnt p), .bool false, .bool false]] ww (.tuple #[.agg #[.int .i64 (wayX (agW p.t p p.fnd false)), .int .i64 (wayK (agW p.t p p.fnd false))], .bool (wayZ (agW p.t p p.fnd false))]) := by
   intro ww
   unfold agW
   rcases hg.fd with hf | hf
   ·rw [if_pos hf, hf]; exact sFind_again0 p.t p.pl (cnt p) p.findC ww
   ·rw [if_neg (isFind_ne hf).1]; exact sFind_again p.t p.pl (cnt p) p.fnd p.findC _ ww hg.ts hg.pl hc hf
  have hi : (agW p.t p p.fnd false).2.2 = false → 0 ≤ (agW p.t p p.fnd false).1 ∧ (agW p.t p p.fnd false).1 ≤ p.t.size := by
   unfold agW
   split
   ·intro h; simp at h
   ·exact hin _ _ _ _
  generalize agW p.t p p.fnd false = R at h hi
  exact mk R hi (fun r d a => GivesR.of_d (fun ww hh => mWay_again r d (p.w a) R ww hh hg.n hg.bh hg.ts hv hi h))
 ·by_cases h44 : key = 44
  ·subst h44
   have h : ∀ ww, qC 183 #[.agg #[.int .u8 (flp p.fnd), .int .u8 p.findC], .agg #[.string p.t, .int .i64 (p.pl), .int .i64 (cnt p), .bool false, .bool false]] ww (.tuple #[.agg #[.int .i64 (wayX (agW p.t p (flp p.fnd) false)), .int .i64 (wayK (agW p.t p (flp p.fnd) false))], .bool (wayZ (agW p.t p (flp p.fnd) false))]) := by
    intro ww
    unfold agW
    rcases hg.fd with hf | hf
    ·have h0 : flp p.fnd = 0 := by rw [hf]; decide
     rw [if_pos h0, h0]; exact sFind_again0 p.t p.pl (cnt p) p.findC ww
    ·rw [if_neg (isFind_ne (isFind_flp hf)).1]; exact sFind_again p.t p.pl (cnt p) _ p.findC _ ww hg.ts hg.pl hc (isFind_flp hf)
   have hi : (agW p.t p (flp p.fnd) false).2.2 = false → 0 ≤ (agW p.t p (flp p.fnd) false).1 ∧ (agW p.t p (flp p.fnd) false).1 ≤ p.t.size := by
    unfold agW
    split
    ·intro h; simp at h
    ·exact hin _ _ _ _
   generalize agW p.t p (flp p.fnd) false = R at h hi
   exact mk R hi (fun r d a => GivesR.of_d (fun ww hh => mWay_turned r d (p.w a) (flp p.fnd) R ww hh hg.n hg.bh hg.ts hv hi (fun ww => sTurned_any p.fnd p.findC ww hg.fd) h))
  ·cases hpw : isPlainWay key with
   | true =>
    have h := fun ww => sGo_way p.t p.pl (cnt p) key 0 false ww hg.ts hg.pl hc (hg.st hm) hpw (HA p.t p.pl hg.ts hg.pl)
    have hi := hin key 0 (decide (0 < cnt p)) false
    generalize goWay p.t p.pl key 0 (max (cnt p) 1) (decide (0 < cnt p)) false false = R at h hi
    exact mk R hi (fun r d a => GivesR.of_d (fun ww hh => mWay_go r d (p.w a) key R ww hh hg.n hg.bh hg.ts hv hi hk1 hk2 h59 h44 h))
   | false =>
    have h := fun ww => sGo_none p.t p.pl (cnt p) key false false ww hpw
    exact mk ((0 : Int), (0 : Int), true) (fun h => by simp at h) (fun r d a => GivesR.of_d (fun ww hh => mWay_go r d (p.w a) key ((0 : Int), (0 : Int), true) ww hh hg.n hg.bh hg.ts hv (fun h => by simp at h) hk1 hk2 h59 h44 h))
theorem vb_flags {p : Pg} (hv : isVb p.verb) : (p.verb != 0) = true ∧ ¬ p.verb = 0 := by
 have h : ¬ p.verb = 0 := by unfold isVb at hv; omega
 exact ⟨by simp [h], h⟩
theorem sGo_V (HA : AnyOk) (p : Pg) (key : Int) (hg : GoodP p) (hm : ¬ p.mode = 1) (hv : isVb p.verb) :
  ∃ R : Int × Int × Bool, (R.2.2 = false → Takes p.t p.pl R) ∧ ∀ ww, qC 169 #[.int .u8 key, .agg #[.string p.t, .int .i64 (p.pl), .int .i64 (cnt p), .bool (p.verb != 0), .bool (p.verb == 99)]] ww (.tuple #[.agg #[.int .i64 (wayX (R)), .int .i64 (wayK (R))], .bool (wayZ (R))]) := by
 have hc := cnt_le hg.n hg.bh
 rw [(vb_flags hv).1]
 cases hpw : isPlainWay key with
 | true =>
  by_cases h99 : p.verb = 99
  ·rw [show (p.verb == 99) = true by simp [h99]]
   exact sGo_wayC p.t p.pl (cnt p) key hg.ts hg.pl (hg.st hm) hc hpw (HA p.t p.pl hg.ts hg.pl)
  ·rw [show (p.verb == 99) = false by simp [h99]]
   refine ⟨goWay p.t p.pl key 0 (max (cnt p) 1) (decide (0 < cnt p)) true false, fun h => goWay_takes key 0 (decide (0 < cnt p)) false hg.pl (hg.st hm) qo h, fun ww => sGo_wayV p.t p.pl (cnt p) key 0 false ww hg.ts hg.pl hc hpw (HA p.t p.pl hg.ts hg.pl)⟩
 | false => exact ⟨((0 : Int), (0 : Int), true), fun h => by simp at h, fun ww => sGo_none p.t p.pl (cnt p) key true (p.verb == 99) ww hpw⟩
theorem sAgain_V (p : Pg) (k : Int) (hg : GoodP p) (hm : ¬ p.mode = 1) (hv : isVb p.verb) (hk : k = 0 ∨ isFind k = true) :
  ∃ R : Int × Int × Bool, (R.2.2 = false → Takes p.t p.pl R) ∧ ∀ ww, qC 183 #[.agg #[.int .u8 k, .int .u8 p.findC], .agg #[.string p.t, .int .i64 (p.pl), .int .i64 (cnt p), .bool (p.verb != 0), .bool (p.verb == 99)]] ww (.tuple #[.agg #[.int .i64 (wayX (R)), .int .i64 (wayK (R))], .bool (wayZ (R))]) := by
 have hc := cnt_le hg.n hg.bh
 rw [(vb_flags hv).1]
 rcases hk with h0 | hk
 ·subst h0
  refine ⟨((0 : Int), (0 : Int), true), fun h => by simp at h, fun ww => ?_⟩
  cases hb : (p.verb == 99)
  ·exact sFind_again0V p.t p.pl (cnt p) p.findC ww
  ·exact sFind_again0C p.t p.pl (cnt p) p.findC ww
 ·refine ⟨goWay p.t p.pl k p.findC (max (cnt p) 1) (decide (0 < cnt p)) true true, fun h => goWay_takes k p.findC (decide (0 < cnt p)) true hg.pl (hg.st hm) qo h, fun ww => ?_⟩
  cases hb : (p.verb == 99)
  ·exact sFind_againV p.t p.pl (cnt p) k p.findC _ ww hg.ts hg.pl hc hk
  ·exact sFind_againC p.t p.pl (cnt p) k p.findC _ ww hg.ts hg.pl hc hk
theorem sFind_V (p : Pg) (k ch : Int) (hg : GoodP p) (hm : ¬ p.mode = 1) (hv : isVb p.verb) (hk : isFind k = true) :
  ∃ R : Int × Int × Bool, (R.2.2 = false → Takes p.t p.pl R) ∧ ∀ ww, qC 167 #[.agg #[.int .u8 k, .int .u8 ch], .agg #[.string p.t, .int .i64 (p.pl), .int .i64 (cnt p), .bool (p.verb != 0), .bool (p.verb == 99)]] ww (.tuple #[.agg #[.int .i64 (wayX (R)), .int .i64 (wayK (R))], .bool (wayZ (R))]) := by
 have hc := cnt_le hg.n hg.bh
 rw [(vb_flags hv).1]
 refine ⟨goWay p.t p.pl k ch (max (cnt p) 1) (decide (0 < cnt p)) true false, fun h => goWay_takes k ch (decide (0 < cnt p)) false hg.pl (hg.st hm) qo h, fun ww => ?_⟩
 cases hb : (p.verb == 99)
 ·exact sFind_goV p.t p.pl (cnt p) k ch _ ww hg.ts hg.pl hc hk
 ·exact sFind_goC p.t p.pl (cnt p) k ch _ ww hg.ts hg.pl hc hk
theorem LA.find {r d m : Nat} {p : Pg} {f : Int → Value} {a c : Int} (h : p.fnd = a ∧ p.findC = c) : HasF (LA r d m p f) r d a c := fun _ h1 => ⟨h1.1.bg.c0, h.1 ▸ h1.1.dk.c8, h.2 ▸ h1.1.dk.c9⟩
theorem Did.fn {p : Pg} {f : Int → Value} {fn fn2 : Nat} {args args2 : Nat → Array Value} {O : Int} {p2 : Pg} {f2 : Int → Value} {i : Prop} (h : Did p f fn args O p2 f2 i) (hc : ∀ r d m (a : Ptr), m ≠ r → m ≠ d → r ≠ d → a.1 = .map (some m) → GivesB fn2 (args2 r) (LA r d m (p.w a) f) (LA r d m (p2.w a) f2) O [r, d, m]) : Did p f fn2 args2 O p2 f2 i :=
 ⟨h.o, h.g, h.gf, h.k, h.e, h.i, h.s, hc⟩
theorem sWayV (HA : AnyOk) (p : Pg) (f : Int → Value) (key : Int) (hg : GoodP p) (hf : GoodF f) (hm : ¬ p.mode = 1) (hv : isVb p.verb) (hk1 : isFind key = false) (hk2 : ¬ key = 103) :
  ∃ O p2 f2, Did p f 148 (fun r => #[.pointer (some ⟨r, 0, none⟩), .int .u8 key]) O p2 f2 (p.verb = 99) := by
 by_cases h59 : key = 59
 ·subst h59
  obtain ⟨R, hR, h⟩ := sAgain_V p p.fnd hg hm hv hg.fd
  obtain ⟨O, p2, f2, hfn, D⟩ := sArriveV p f R hg hf hv hR
  exact ⟨O, p2, f2, D.fn (fun r d m a mr md rd ha ww hh => mWay_againB r d (p.w a) (wayX R) (wayK R) O (wayZ R) _ _ [r, d, m] ww hh LA.firm LA.firm (fun _ h => h.1) (LA.find hfn) hg.n hg.bh h (D.c r d m a mr md rd ha))⟩
 ·by_cases h44 : key = 44
  ·subst h44
   have hfl : flp p.fnd = 0 ∨ isFind (flp p.fnd) = true := by
    rcases hg.fd with h | h
    ·exact Or.inl (by rw [h]; decide)
    ·exact Or.inr (isFind_flp h)
   obtain ⟨R, hR, h⟩ := sAgain_V p (flp p.fnd) hg hm hv hfl
   obtain ⟨O, p2, f2, hfn, D⟩ := sArriveV p f R hg hf hv hR
   exact ⟨O, p2, f2, D.fn (fun r d m a mr md rd ha ww hh => mWay_turnedB r d (p.w a) (flp p.fnd) (wayX R) (wayK R) O (wayZ R) _ _ [r, d, m] ww hh LA.firm LA.firm (fun _ h => h.1) hg.n hg.bh (fun ww => sTurned_any p.fnd p.findC ww hg.fd) h (D.c r d m a mr md rd ha))⟩
  ·obtain ⟨R, hR, h⟩ := sGo_V HA p key hg hm hv
   obtain ⟨O, p2, f2, hfn, D⟩ := sArriveV p f R hg hf hv hR
   exact ⟨O, p2, f2, D.fn (fun r d m a mr md rd ha ww hh => mWay_goB r d (p.w a) key (wayX R) (wayK R) O (wayZ R) _ _ [r, d, m] ww hh LA.firm LA.firm (fun _ h => h.1) hg.n hg.bh hk1 hk2 h59 h44 h (D.c r d m a mr md rd ha))⟩
theorem GoodC.find {m : Nat} {p : Pg} (h : GoodC m p) (key : Int) (hp : isFind p.part = true) : GoodC m { p with fnd := p.part, findC := key } :=
 ⟨h.ts, h.pl, h.st, h.an, h.mo, h.n, h.bh, Or.inr hp, h.rg⟩
theorem GoodP.find {p : Pg} (h : GoodP p) (key : Int) (hp : isFind p.part = true) : GoodP { p with fnd := p.part, findC := key } :=
 ⟨h.ts, h.pl, h.st, h.an, h.mo, h.n, h.bh, Or.inr hp⟩
theorem GoodP.mark {p : Pg} (h : GoodP p) (i j : Nat) (l : Bool) (hij : i ≤ j) (hj : j ≤ p.t.size) : GoodP (mkP p i j l) := by
 unfold mkP
 split
 ·exact h
 ·have hb := beg_le p.t j
  have hq : (if l then beg p.t j else max i (j - 1)) ≤ p.t.size := by split <;> omega
  exact ⟨h.ts, clm_in hq, fun _ => clm_settled hq, fun _ => by show i ≤ p.t.size; omega, h.mo, h.n, h.bh, h.fd⟩
theorem mkP_all (p : Pg) (i j : Nat) (l : Bool) : (mkP p i j l).now = p.now ∧ (mkP p i j l).back = p.back ∧ (mkP p i j l).forth = p.forth ∧ (mkP p i j l).mode = p.mode := by unfold mkP; split <;> exact ⟨rfl, rfl, rfl, rfl⟩
theorem mkP_w (p : Pg) (i j : Nat) (l : Bool) (a : Ptr) : mkP (p.w a) i j l = (mkP p i j l).w a := by unfold mkP; split <;> rfl
theorem mkP_s (p : Pg) (i j : Nat) (l : Bool) (hv : p.verb = 0) : FV p (mkO i j l) (mkP p i j l) := by
 refine ⟨?_, fun h => by unfold isV5 at h; omega, fun h => absurd hv h⟩
 unfold mkO mkP
 split
 ·intro _; exact ⟨rfl, rfl, rfl⟩
 ·intro h; exact absurd h qd
theorem isVb_or {p : Pg} (gb : GoodB p) : p.verb = 0 ∨ isVb p.verb := by
 rcases gb.vb with h | h
 ·exact Or.inl h
 ·exact Or.inr h.1
theorem sComplete (HA : AnyOk) (p : Pg) (f : Int → Value) (key : Int) (hg : GoodP p) (gb : GoodB p) (hf : GoodF f) (hm : ¬ p.mode = 1) (hp : isFind p.part = true ∨ p.part = 103 ∨ p.part = 105 ∨ p.part = 97) :
  ∃ O p2 f2, Did p f 145 (fun r => #[.pointer (some ⟨r, 0, none⟩), .int .u8 key]) O p2 f2 (p.verb = 99) := by
 have hc := cnt_le hg.n hg.bh
 rcases hp with hp | hp | hp
 ·rcases isVb_or gb with hv | hv
  ·have h := fun ww => sFind_go p.t p.pl (cnt p) p.part key (decide (0 < cnt p)) ww hg.ts hg.pl hc hp
   have hi := goWay_in (s := p.t) (p := p.pl) (n := max (cnt p) 1) p.part key (decide (0 < cnt p)) false hg.pl qo
   generalize goWay p.t p.pl p.part key (max (cnt p) 1) (decide (0 < cnt p)) false false = R at h hi
   obtain ⟨a1, a2, a3, a4⟩ := arrEd_all { p with fnd := p.part, findC := key } R
   refine ⟨_, arrEd { p with fnd := p.part, findC := key } R, f, ?_, (hg.find key hp).arr R hi, hf, ⟨a1, a2, a3⟩, fun _ => a4, fun _ => by rw [a4, hv]; simp [hm], arrEd_s R hv rfl rfl rfl, fun r d m a mr md rd ha => by have := GivesB.ofD (f := f) (fun ww hh => mComplete_find r d (p.w a) key R ww hh hg.n hg.bh hg.ts hv hp hi h) mr md; exact (arrEd_w { p with fnd := p.part, findC := key } R a) ▸ this⟩
   split <;> simp
  ·have hg1 := hg.find key hp
   obtain ⟨R, hR, h⟩ := sFind_V p p.part key hg hm hv hp
   obtain ⟨O, p2, f2, hfn, D⟩ := sArriveV { p with fnd := p.part, findC := key } f R hg1 hf hv hR
   refine ⟨O, p2, f2, D.o, D.g, D.gf, D.k, D.e, D.i, D.s, fun r d m a mr md rd ha => fun ww hh => mComplete_findB r d (p.w a) key (wayX R) (wayK R) O (wayZ R) (LA r d m (p.w a) f) (LA r d m (Pg.w { p with fnd := p.part, findC := key } a) f) _ [r, d, m] ww hh LA.firm LA.firm LA.firm (fun _ h => h.1) (fun _ h => h.1) (LA.find hfn) qi hg.n hg.bh hp (fun w2 h2 => ⟨(h2.1.set_fnd p.part).set_findC key, (h2.2.other md _).other md _⟩) h (D.c r d m a mr md rd ha)⟩
 ·by_cases hk : key = 103
  ·subst hk
   rcases isVb_or gb with hv | hv
   ·have h := fun ww => sGo_way p.t p.pl (cnt p) 103 0 false ww hg.ts hg.pl hc (hg.st hm) qd (HA p.t p.pl hg.ts hg.pl)
    have hi := goWay_in (s := p.t) (p := p.pl) (n := max (cnt p) 1) 103 0 (decide (0 < cnt p)) false hg.pl qo
    generalize goWay p.t p.pl 103 0 (max (cnt p) 1) (decide (0 < cnt p)) false false = R at h hi
    obtain ⟨a1, a2, a3, a4⟩ := arrEd_all p R
    refine ⟨_, arrEd p R, f, ?_, hg.arr R hi, hf, ⟨a1, a2, a3⟩, fun _ => a4, fun _ => by rw [a4, hv]; simp [hm], arrEd_s R hv rfl rfl rfl, fun r d m a mr md rd ha => by have := GivesB.ofD (f := f) (fun ww hh => mComplete_gg r d (p.w a) R ww hh hg.n hg.bh hg.ts hv hp hi h) mr md; rw [arrEd_w] at this; exact this⟩
    split <;> simp
   ·obtain ⟨R, hR, h⟩ := sGo_V HA p 103 hg hm hv
    obtain ⟨O, p2, f2, hfn, D⟩ := sArriveV p f R hg hf hv hR
    exact ⟨O, p2, f2, D.fn (fun r d m a mr md rd ha => fun ww hh => mComplete_ggB r d (p.w a) (wayX R) (wayK R) O (wayZ R) _ _ [r, d, m] ww hh LA.firm LA.firm (fun _ h => h.1) hg.n hg.bh hp h (D.c r d m a mr md rd ha))⟩
  ·exact ⟨4, p, f, Or.inr (Or.inr rfl), hg, hf, ⟨rfl, rfl, rfl⟩, fun _ => rfl, fun h => absurd rfl h, ⟨fun _ => ⟨rfl, rfl, rfl⟩, fun _ => Or.inr rfl, fun _ => Or.inl rfl⟩, fun r d m a mr md rd ha => GivesB.ofW (fun ww hh => mComplete_g r d (p.w a) key ww hh hp hk)⟩
 ·obtain ⟨i, j, l, is, hij, hj, HF⟩ := oFind p.t p.pl key (p.part == 97) hg.ts hg.pl
  have hrT : ∀ {r d m : Nat}, m ≠ r → r ≠ d → r ∉ [d, m] := fun mr rd => by simp [rd, mr.symm]
  have done : ∀ O p2 f2, (O = 1 ∨ O = 2 ∨ O = 4) → GoodP p2 → GoodF f2 → (p2.now = p.now ∧ p2.back = p.back ∧ p2.forth = p.forth) → (O = 4 → p2.mode = p.mode) → (¬ O = 4 → (p2.mode = 1 ↔ p.verb = 99)) → FV p O p2 → (∀ r d m (a : Ptr), m ≠ r → m ≠ d → r ≠ d → a.1 = .map (some m) → GivesB 170 #[.pointer (some ⟨r, 0, none⟩), .agg #[.int .i64 i, .int .i64 j, .bool l], .bool is] (LA r d m (p.w a) f) (LA r d m (p2.w a) f2) O [d, m]) → ∃ O p2 f2, Did p f 145 (fun r => #[.pointer (some ⟨r, 0, none⟩), .int .u8 key]) O p2 f2 (p.verb = 99) := by
   intro O p2 f2 h1 h2 h3 h4 h5 h6 h8 h7
   exact ⟨O, p2, f2, h1, h2, h3, h4, h5, h6, h8, fun r d m a mr md rd ha => GivesB.more (fun ww hh => mComplete_obj r d (p.w a) key O i j l is (LA r d m (p.w a) f) (LA r d m (p2.w a) f2) [d, m] ww hh LA.firm LA.firm (fun _ h => h.1) (hrT mr rd) hp HF (h7 r d m a mr md rd ha))⟩
  cases is with
  | false =>
   refine done 4 p f (Or.inr (Or.inr rfl)) hg hf ⟨rfl, rfl, rfl⟩ (fun _ => rfl) (fun h => absurd rfl h) ⟨fun _ => ⟨rfl, rfl, rfl⟩, fun _ => Or.inr rfl, fun _ => Or.inl rfl⟩ (fun r d m a mr md rd ha => fun ww hh => Calls.mono (mGrasp_fail r i j l ww) ?_)
   rintro e w' ⟨rfl, hb⟩
   exact ⟨rfl, ⟨hh.1.below hb, hh.2.below hb⟩, Upd.of_below hb⟩
  | true =>
   rcases isVb_or gb with hv | hv
   ·obtain ⟨a1, a2, a3, a4⟩ := mkP_all p i j l
    refine done (mkO i j l) (mkP p i j l) f (by unfold mkO; split <;> simp) (hg.mark i j l hij hj) hf ⟨a1, a2, a3⟩ (fun _ => a4) (fun _ => by rw [a4, hv]; simp [hm]) (mkP_s p i j l hv) (fun r d m a mr md rd ha => fun ww hh => mGrasp_mark r d (p.w a) _ i j l (LA r d m (p.w a) f) (LA r d m ((mkP p i j l).w a) f) [d, m] ww hh LA.firm LA.firm (fun _ h => h.1) hv (fun w2 h2 => Calls.mono (mkP_w p i j l a ▸ mMarkAll r d (p.w a) i j l w2 h2.1 hg.ts hij hj) ?_))
    rintro e w' ⟨h0, h1, h3⟩
    exact ⟨h0, ⟨h1, h2.2.upd h3 (by simp [md])⟩, h3.mono qi⟩
   ·obtain ⟨O, p2, f2, h1, h2, h3, h4, hfn, h5, h6, h8, h7⟩ := sDoD p.verb p f i j l hg hf hv hij hj
    exact done O p2 f2 h1 h2 h3 h4 h5 h6 ⟨h8.1, h8.2.1, fun _ => h8.2.2⟩ (fun r d m a mr md rd ha => fun ww hh => mGrasp_verb r d (p.w a) O i j l (LA r d m (p.w a) f) (LA r d m (p2.w a) f2) [d, m] ww hh LA.firm LA.firm (fun _ h => h.1) (hrT mr rd) (tl_of hh) (vb_flags hv).2 (h7 r d m a mr md ha))
def nxtP (p : Pg) (key : Int) : Option Pg :=
 if p.part = 103 ∧ p.verb = 0 ∧ (key = 117 ∨ key = 85) then some { p with part := 0, verb := key } else if p.part = 34 ∧ (key = 34 ∨ (97 ≤ key ∧ key ≤ 122)) then some { p with reg := key, part := 0 } else none
def nxtB (p : Pg) (key : Int) : Option Pg :=
 if key = p.verb then none else if key = 105 ∨ key = 97 ∨ isFind key = true ∨ key = 103 then some { p with part := key } else none
def nxtC (p : Pg) (key : Int) : Option Pg :=
 if key = 34 then (if waits p = true then none else some { p with part := 34 }) else if key = 100 ∨ key = 99 ∨ key = 121 ∨ key = 62 ∨ key = 60 then some { p with verb := key } else if key = 114 ∨ isFind key = true ∨ key = 103 then some { p with part := key } else none
def nxt (p : Pg) (key : Int) : Option Pg :=
 if ¬ p.part = 0 then nxtP p key else if p.verb = 0 then (if isD p.n key = true then some { p with n := nextN p.n key } else nxtC p key) else (if isD p.behind key = true then some { p with behind := nextN p.behind key } else nxtB p key)
def insK (p : Pg) (key : Int) : Prop := p.verb = 99 ∨ (p.verb = 0 ∧ p.part = 0 ∧ (key = 105 ∨ key = 97 ∨ key = 73 ∨ key = 65 ∨ key = 111 ∨ key = 79 ∨ key = 67 ∨ key = 115 ∨ key = 83))
def BegD (p p2 : Pg) : Prop := ∃ a b c e g, p2 = { p with reg := a, n := b, verb := c, behind := e, part := g }
def StN (p : Pg) (f : Int → Value) (fn : Nat) (args : Nat → Array Value) (x : Option Pg) (i : Prop) : Prop :=
 (∃ p2, x = some p2 ∧ GoodP p2 ∧ GoodB p2 ∧ BegD p p2 ∧ ∀ r d m (a : Ptr), m ≠ r → m ≠ d → r ≠ d → a.1 = .map (some m) → GivesB fn (args r) (LA r d m (p.w a) f) (LA r d m (p2.w a) f) 0 [r, d, m]) ∨ (x = none ∧ ∃ O p2 f2, Did p f fn args O p2 f2 i)
theorem StN.to {p : Pg} {f : Int → Value} {fn fn2 : Nat} {args args2 : Nat → Array Value} {x : Option Pg} {i : Prop} (h : StN p f fn args x i) (hc : ∀ O (p2 : Pg) f2, ∀ r d m (a : Ptr), m ≠ r → m ≠ d → r ≠ d → a.1 = .map (some m) → GivesB fn (args r) (LA r d m (p.w a) f) (LA r d m (p2.w a) f2) O [r, d, m] → GivesB fn2 (args2 r) (LA r d m (p.w a) f) (LA r d m (p2.w a) f2) O [r, d, m]) : StN p f fn2 args2 x i := by
 rcases h with ⟨p2, h1, h2, h3, h4, h5⟩ | ⟨h1, O, p2, f2, h2⟩
 ·exact Or.inl ⟨p2, h1, h2, h3, h4, fun r d m a mr md rd ha => hc _ _ _ r d m a mr md rd ha (h5 r d m a mr md rd ha)⟩
 ·exact Or.inr ⟨h1, O, p2, f2, h2.fn (fun r d m a mr md rd ha => hc _ _ _ r d m a mr md rd ha (h2.c r d m a mr md rd ha))⟩
theorem Did.iff {p : Pg} {f : Int → Value} {fn : Nat} {args : Nat → Array Value} {O : Int} {p2 : Pg} {f2 : Int → Value} {i j : Prop} (h : Did p f fn args O p2 f2 i) (hij : i ↔ j) : Did p f fn args O p2 f2 j :=
 ⟨h.o, h.g, h.gf, h.k, h.e, fun x => (h.i x).trans hij, h.s, h.c⟩
theorem Did.fail {p : Pg} {f : Int → Value} {fn : Nat} {args : Nat → Array Value} {i : Prop} (hg : GoodP p) (hf : GoodF f) (hc : ∀ r d m (a : Ptr), m ≠ r → m ≠ d → r ≠ d → a.1 = .map (some m) → GivesB fn (args r) (LA r d m (p.w a) f) (LA r d m (p.w a) f) 4 [r, d, m]) : Did p f fn args 4 p f i :=
 ⟨Or.inr (Or.inr rfl), hg, hf, ⟨rfl, rfl, rfl⟩, fun _ => rfl, fun h => absurd rfl h, ⟨fun _ => ⟨rfl, rfl, rfl⟩, fun _ => Or.inr rfl, fun _ => Or.inl rfl⟩, hc⟩
theorem tl3_of {r d m : Nat} {p : Pg} {f : Int → Value} {ww : World} (h : LA r d m p f ww) : ∀ k, k ∈ [r, d, m] → k < ww.heap.size := by
 intro k hk
 simp at hk
 rcases hk with hk | hk | hk
 ·rw [hk]; exact h.1.bg.lt
 ·rw [hk]; exact h.1.dk.lt
 ·rw [hk]; exact h.2.lt
theorem GoodC.begun {m : Nat} {p : Pg} (h : GoodC m p) (a : Int) (b : Nat) (c : Int) (e : Nat) (g : Int) (hb : b ≤ 99) (he : e ≤ 99) : GoodC m { p with reg := a, n := b, verb := c, behind := e, part := g } :=
 ⟨h.ts, h.pl, h.st, h.an, h.mo, hb, he, h.fd, h.rg⟩
theorem GoodP.begun {p : Pg} (h : GoodP p) (a : Int) (b : Nat) (c : Int) (e : Nat) (g : Int) (hb : b ≤ 99) (he : e ≤ 99) : GoodP { p with reg := a, n := b, verb := c, behind := e, part := g } :=
 ⟨h.ts, h.pl, h.st, h.an, h.mo, hb, he, h.fd⟩
theorem edP_w (p : Pg) (X : ByteArray) (q : Nat) (is : Bool) (a : Ptr) : edP (p.w a) X q is = (edP p X q is).w a := by unfold edP; split <;> rfl
theorem sEdit (p : Pg) (f : Int → Value) (X : ByteArray) (q : Nat) (is : Bool) (hg : GoodP p) (hf : GoodF f) (hm : p.mode = 0) (hq : is = true → q ≤ X.size) :
  ∃ O p2, Did p f 155 (fun r => #[.agg #[.pointer (some ⟨r, 0, none⟩)], .string X, .int .i64 q, .bool is]) O p2 f False := by
 have hm1 : ¬ p.mode = 1 := by rw [hm]; decide
 refine ⟨edO X is, edP p X q is, ?_, ?_, hf, ?_, ?_, ?_, ⟨?_, fun _ => ?_, fun _ => Or.inr (Or.inl ?_)⟩, fun r d m a mr md rd ha => by have := GivesB.ofD (f := f) (fun ww hh => mEdit r d (p.w a) X q is ww hh (fun h _ => hq h)) mr md; rw [edP_w] at this; exact this⟩
 ·unfold edO; split <;> simp
 ·unfold edP
  split
  ·next h => exact ⟨h.2, clm_in (hq h.1), fun _ => clm_settled (hq h.1), fun h => by have : p.mode = 2 ∨ p.mode = 3 := h; omega, hg.mo, hg.n, hg.bh, hg.fd⟩
  ·exact hg
 ·unfold edP; split <;> exact ⟨rfl, rfl, rfl⟩
 ·intro _; unfold edP; split <;> rfl
 ·intro _; unfold edP; split <;> simp [hm1]
 ·unfold edO edP
  split
  ·intro h; exact absurd h qd
  ·intro _; exact ⟨rfl, rfl, rfl⟩
 ·unfold edO; split <;> simp
 ·unfold edP; split <;> exact hm
theorem sNComp (HA : AnyOk) (p : Pg) (f : Int → Value) (c : UInt8) (hg : GoodP p) (gb : GoodB p) (hf : GoodF f) (hm : p.mode = 0) (hp : ¬ p.part = 0) :
  StN p f 138 (fun r => #[.agg #[.pointer (some ⟨r, 0, none⟩)], .int .u8 c.toNat]) (nxtP p c.toNat) (insK p c.toNat) := by
 have hm1 : ¬ p.mode = 1 := by rw [hm]; decide
 have hik : insK p c.toNat ↔ p.verb = 99 := by
  unfold insK
  constructor
  ·rintro (h | h)
   ·exact h
   ·exact absurd h.2.1 hp
  ·exact Or.inl
 have hc := cnt_le hg.n hg.bh
 by_cases h1 : p.part = 114
 ·have hv : p.verb = 0 := by
   rcases gb.pt with h | h | h | h | h | h
   ·omega
   ·exfalso; rw [h1] at h; simp [isFind] at h
   ·omega
   ·omega
   ·exact h.2.2
   ·omega
  have hn : nxtP p c.toNat = none := by unfold nxtP; rw [if_neg qo, if_neg qo]
  refine Or.inr ⟨hn, ?_⟩
  have hi : False ↔ insK p c.toNat := by rw [hik, hv]; decide
  by_cases hw : (c.toNat : Int) = 9 ∨ 32 ≤ (c.toNat : Int)
  ·obtain ⟨X, q, is, hq, HX⟩ := eReplaced p.t p.pl (max (cnt p) 1) c hg.ts hg.pl qo qo
   obtain ⟨O, p2, D⟩ := sEdit p f X q is hg hf hm hq
   exact ⟨O, p2, f, (D.fn (fun r d m a mr md rd ha => fun ww hh => mNComplete_r r d (p.w a) c.toNat O (LA r d m (p.w a) f) (LA r d m (p2.w a) f) [r, d, m] ww hh LA.firm LA.firm (fun _ h => h.1) h1 (fun w2 h2 => mReplace r d (p.w a) c.toNat O X q is (LA r d m (p.w a) f) (LA r d m (p2.w a) f) [r, d, m] w2 h2 LA.firm LA.firm (fun _ h => h.1) (tl3_of h2) hw (fun w3 h3 => mSpot r d (p.w a) w3 h3.1 hg.n hg.bh) HX (D.c r d m a mr md rd ha)))).iff hi⟩
  ·exact ⟨4, p, f, Did.fail hg hf (fun r d m a mr md rd ha => fun ww hh => mNComplete_r r d (p.w a) c.toNat 4 (LA r d m (p.w a) f) (LA r d m (p.w a) f) [r, d, m] ww hh LA.firm LA.firm (fun _ h => h.1) h1 (GivesB.ofW (fun w2 _ => mReplace_no r c.toNat w2 hw)))⟩
 ·by_cases h2 : p.part = 103 ∧ p.verb = 0 ∧ ((c.toNat : Int) = 117 ∨ (c.toNat : Int) = 85)
  ·refine Or.inl ⟨{ p with part := 0, verb := c.toNat }, by unfold nxtP; rw [if_pos h2], hg.begun p.reg p.n c.toNat p.behind 0 hg.n hg.bh, ⟨Or.inr ⟨?_, hm⟩, Or.inl rfl, fun h => absurd h hm1⟩, ⟨p.reg, p.n, c.toNat, p.behind, 0, rfl⟩, fun r d m a mr md rd ha => GivesB.ofr (fun ww hh => mNComplete_case r d (p.w a) c.toNat ww hh h2.1 h2.2.1 h2.2.2) mr md⟩
   show isVb (c.toNat : Int)
   unfold isVb
   omega
  ·have hr : p.part = 103 → p.verb = 0 → ¬ (c.toNat : Int) = 117 ∧ ¬ (c.toNat : Int) = 85 := by
    intro a b
    constructor
    ·intro e; exact h2 ⟨a, b, Or.inl e⟩
    ·intro e; exact h2 ⟨a, b, Or.inr e⟩
   have go : ∀ O (p2 : Pg) f2, ∀ r d m (a : Ptr), m ≠ r → m ≠ d → r ≠ d → a.1 = .map (some m) → GivesB 145 #[.pointer (some ⟨r, 0, none⟩), .int .u8 c.toNat] (LA r d m (p.w a) f) (LA r d m (p2.w a) f2) O [r, d, m] → GivesB 138 #[.agg #[.pointer (some ⟨r, 0, none⟩)], .int .u8 c.toNat] (LA r d m (p.w a) f) (LA r d m (p2.w a) f2) O [r, d, m] := fun O p2 f2 r d m a mr md rd ha h ww hh => mNComplete_any r d (p.w a) c.toNat O (LA r d m (p.w a) f) (LA r d m (p2.w a) f2) [r, d, m] ww hh LA.firm LA.firm (fun _ h => h.1) h1 hr h
   refine StN.to (fn := 145) ?_ go
   by_cases h3 : p.part = 34
   ·have cn : ∀ O (p2 : Pg) f2, ∀ r d m (a : Ptr), m ≠ r → m ≠ d → r ≠ d → a.1 = .map (some m) → GivesB 165 #[.pointer (some ⟨r, 1, none⟩), .int .u8 c.toNat] (LA r d m (p.w a) f) (LA r d m (p2.w a) f2) O [r, d, m] → GivesB 145 #[.pointer (some ⟨r, 0, none⟩), .int .u8 c.toNat] (LA r d m (p.w a) f) (LA r d m (p2.w a) f2) O [r, d, m] := fun O p2 f2 r d m a mr md rd ha h ww hh => mComplete_name r d (p.w a) c.toNat O (LA r d m (p.w a) f) (LA r d m (p2.w a) f2) [r, d, m] ww hh LA.firm LA.firm (fun _ h => h.1) h3 h
    by_cases hk : (c.toNat : Int) = 34 ∨ (97 ≤ (c.toNat : Int) ∧ (c.toNat : Int) ≤ 122)
    ·refine Or.inl ⟨{ p with reg := c.toNat, part := 0 }, by unfold nxtP; rw [if_neg qo, if_pos ⟨h3, hk⟩], hg.begun c.toNat p.n p.verb p.behind 0 hg.n hg.bh, ⟨gb.vb, Or.inl rfl, fun h => absurd h hm1⟩, ⟨c.toNat, p.n, p.verb, p.behind, 0, rfl⟩, fun r d m a mr md rd ha => cn _ _ _ r d m a mr md rd ha (GivesB.ofr (fun ww hh => mName_yes r d (p.w a) c.toNat ww hh hk) mr md)⟩
    ·exact Or.inr ⟨by unfold nxtP; rw [if_neg qo, if_neg qo], 4, p, f, Did.fail hg hf (fun r d m a mr md rd ha => cn _ _ _ r d m a mr md rd ha (GivesB.ofW (fun ww _ => mName_no r c.toNat ww qo qo)))⟩
   ·have hpp : isFind p.part = true ∨ p.part = 103 ∨ p.part = 105 ∨ p.part = 97 := by
     rcases gb.pt with h | h | h | h | h | h
     ·exact absurd h hp
     ·exact Or.inl h
     ·exact Or.inr (Or.inl h)
     ·exact absurd h h3
     ·exact absurd h.1 h1
     ·exact Or.inr (Or.inr h.1)
    obtain ⟨O, p2, f2, D⟩ := sComplete HA p f c.toNat hg gb hf hm1 hpp
    exact Or.inr ⟨by unfold nxtP; rw [if_neg h2, if_neg qo], O, p2, f2, D.iff hik.symm⟩
theorem sBehind (HA : AnyOk) (p : Pg) (f : Int → Value) (key : Int) (hg : GoodP p) (hf : GoodF f) (hm : p.mode = 0) (hv : isVb p.verb) :
  StN p f 140 (fun r => #[.agg #[.pointer (some ⟨r, 0, none⟩)], .int .u8 key]) (nxtB p key) (p.verb = 99) := by
 have hm1 : ¬ p.mode = 1 := by rw [hm]; decide
 have hv0 := (vb_flags hv).2
 by_cases h1 : key = p.verb
 ·refine Or.inr ⟨by unfold nxtB; rw [if_pos h1], ?_⟩
  have hpl := hg.pl
  have hq : lnsTo p ≤ p.t.size := by
   have h1 := lns_pos p.t
   exact (att_in (s := p.t) (m := min (lin p.t p.pl + (max (cnt p) 1 - 1)) (lns p.t - 1)) qo).1
  have e1 := fin_le hpl
  have e2 := fin_le hq
  have e3 := fin_ge p.t p.pl
  have e4 := beg_le p.t p.pl
  obtain ⟨O, p2, f2, a1, a2, a3, a4, _, a5, a6, a7, HD⟩ := sDoD p.verb p f (min (beg p.t p.pl) (beg p.t (lnsTo p))) (max (fin p.t p.pl) (fin p.t (lnsTo p))) true hg hf hv qo qo
  have HL : ∀ r d m (a : Ptr) ww, LA r d m (p.w a) f ww → qC 147 #[.agg #[.pointer (some ⟨r, 0, none⟩)]] ww (.agg #[.int .i64 ((min (beg p.t p.pl) (beg p.t (lnsTo p)) : Nat) : Int), .int .i64 ((max (fin p.t p.pl) (fin p.t (lnsTo p)) : Nat) : Int), .bool true]) := by
   intro r d m a ww hh
   have := mLines r d (p.w a) ww hh.1 hg.ts hpl hg.n hg.bh (cnt_le hg.n hg.bh)
   rw [show ((min (beg p.t p.pl) (beg p.t (lnsTo p)) : Nat) : Int) = min (beg p.t p.pl : Int) (beg p.t (lnsTo p)) by omega, show ((max (fin p.t p.pl) (fin p.t (lnsTo p)) : Nat) : Int) = max (fin p.t p.pl : Int) (fin p.t (lnsTo p)) by omega]
   exact this
  exact ⟨O, p2, f2, a1, a2, a3, a4, a5, a6, ⟨a7.1, a7.2.1, fun _ => a7.2.2⟩, fun r d m a mr md rd ha => GivesB.more (fun ww hh => mBehind_lines r d (p.w a) key O _ _ (LA r d m (p.w a) f) (LA r d m (p2.w a) f2) [d, m] ww hh LA.firm LA.firm (fun _ h => h.1) (by simp [rd, mr.symm]) (tl_of hh) h1 (HL r d m a) (HD r d m a mr md ha))⟩
 ·by_cases h2 : key = 105 ∨ key = 97
  ·refine Or.inl ⟨{ p with part := key }, by unfold nxtB; rw [if_neg h1, if_pos qo], hg.begun p.reg p.n p.verb p.behind key hg.n hg.bh, ⟨Or.inr ⟨hv, hm⟩, Or.inr (Or.inr (Or.inr (Or.inr (Or.inr ⟨h2, Or.inl hv0⟩)))), fun h => absurd h hm1⟩, ⟨p.reg, p.n, p.verb, p.behind, key, rfl⟩, fun r d m a mr md rd ha => fun ww hh => mBehind_await r d (p.w a) key 0 (LA r d m (p.w a) f) _ [r, d, m] ww hh LA.firm LA.firm (fun _ h => h.1) (fun e => h1 e.symm) h2 (GivesB.ofr (fun w2 h2 => mAwait r d (p.w a) key w2 h2) mr md)⟩
  ·have go : ∀ O (p2 : Pg) f2, ∀ r d m (a : Ptr), m ≠ r → m ≠ d → r ≠ d → a.1 = .map (some m) → GivesB 148 #[.pointer (some ⟨r, 0, none⟩), .int .u8 key] (LA r d m (p.w a) f) (LA r d m (p2.w a) f2) O [r, d, m] → GivesB 140 #[.agg #[.pointer (some ⟨r, 0, none⟩)], .int .u8 key] (LA r d m (p.w a) f) (LA r d m (p2.w a) f2) O [r, d, m] := fun O p2 f2 r d m a mr md rd ha h ww hh => mBehind_way r d (p.w a) key O (LA r d m (p.w a) f) (LA r d m (p2.w a) f2) [r, d, m] ww hh LA.firm LA.firm (fun _ h => h.1) h1 qo qo h
   refine StN.to (fn := 148) ?_ go
   by_cases h3 : isFind key = true ∨ key = 103
   ·refine Or.inl ⟨{ p with part := key }, by unfold nxtB; rw [if_neg h1, if_pos (Or.inr (Or.inr h3))], hg.begun p.reg p.n p.verb p.behind key hg.n hg.bh, ⟨Or.inr ⟨hv, hm⟩, ?_, fun h => absurd h hm1⟩, ⟨p.reg, p.n, p.verb, p.behind, key, rfl⟩, fun r d m a mr md rd ha => GivesB.ofr (fun w2 h2 => mWay_part r d (p.w a) key w2 h2 h3) mr md⟩
    rcases h3 with h | h
    ·exact Or.inr (Or.inl h)
    ·exact Or.inr (Or.inr (Or.inl h))
   ·have h4 : isFind key = false := by
     cases h : isFind key
     ·rfl
     ·exact absurd (Or.inl h) h3
    obtain ⟨O, p2, f2, D⟩ := sWayV HA p f key hg hf hm1 hv h4 (fun e => h3 (Or.inr e))
    refine Or.inr ⟨?_, O, p2, f2, D⟩
    unfold nxtB
    rw [if_neg h1, if_neg]
    rintro (h | h | h)
    ·exact h2 (Or.inl h)
    ·exact h2 (Or.inr h)
    ·exact h3 h
theorem sBegin (p : Pg) (f : Int → Value) (key : Int) (hg : GoodP p) (hf : GoodF f) (hv0 : p.verb = 0) (hk : key = 105 ∨ key = 97 ∨ key = 73 ∨ key = 65) :
  ∃ O p2, Did p f 152 (fun r => #[.agg #[.pointer (some ⟨r, 0, none⟩)], .int .u8 key]) O p2 f True := by
 have e1 := fin_le hg.pl
 have e2 := beg_le p.t p.pl
 have e3 := fin_ge p.t p.pl
 have mk : ∀ q, q ≤ p.t.size → (∀ r d (a : Ptr) ww, RdAt ww r d (p.w a) → Calls Tryz.prog 152 #[.agg #[.pointer (some ⟨r, 0, none⟩)], .int .u8 key] ww fun e w' => e = .returned (.int .i64 1) ∧ RdAt w' r d (Pg.w { p with mode := 1, anchor := 0, pl := q } a) ∧ Upd [d] ww w') → ∃ O p2, Did p f 152 (fun r => #[.agg #[.pointer (some ⟨r, 0, none⟩)], .int .u8 key]) O p2 f True := by
  intro q hq h
  exact ⟨1, { p with mode := 1, anchor := 0, pl := q }, Or.inl rfl, ⟨hg.ts, hq, fun h => absurd rfl h, fun _ => Nat.zero_le _, Or.inr (Or.inl rfl), hg.n, hg.bh, hg.fd⟩, hf, ⟨rfl, rfl, rfl⟩, (fun h => absurd h qd), (fun _ => ⟨fun _ => trivial, fun _ => rfl⟩), ⟨fun h => absurd h qd, fun h => by unfold isV5 at h; omega, fun h => absurd hv0 h⟩, fun r d m a mr md rd ha => GivesB.ofD (h r d a) mr md⟩
 rcases hk with h | h | h | h
 ·subst h; exact mk _ hg.pl (fun r d a ww hh => mBegin_i r d (p.w a) ww hh hg.ts hg.pl)
 ·subst h; exact mk (min (p.pl + 1) (fin p.t p.pl)) qo (fun r d a ww hh => mBegin_a r d (p.w a) ww hh hg.ts hg.pl)
 ·subst h
  have h3 : ind p.t p.pl ≤ fin p.t p.pl := up_le qo
  exact mk (ind p.t p.pl) qo (fun r d a ww hh => mBegin_I r d (p.w a) ww hh hg.ts hg.pl)
 ·subst h; exact mk (fin p.t p.pl) qo (fun r d a ww hh => mBegin_A r d (p.w a) ww hh hg.ts hg.pl)
theorem olP_w (p : Pg) (key : Int) (a : Ptr) : olP (p.w a) key = (olP p key).w a := by
 show (if (put p.t (olT p key) (olK p key)).size ≤ 1000 then _ else _) = Pg.w (if (put p.t (olT p key) (olK p key)).size ≤ 1000 then _ else _) a
 split <;> rfl
theorem sOpen (p : Pg) (f : Int → Value) (key : Int) (hg : GoodP p) (hf : GoodF f) (hv0 : p.verb = 0) (hk : key = 111 ∨ key = 79) :
  ∃ O p2, Did p f 153 (fun r => #[.agg #[.pointer (some ⟨r, 0, none⟩)], .int .u8 key]) O p2 f True := by
 have e1 := fin_le hg.pl
 have e2 := beg_le p.t p.pl
 have e3 := fin_ge p.t p.pl
 refine ⟨olO p key, olP p key, ?_, ?_, hf, ?_, ?_, ?_, ⟨?_, fun h => by unfold isV5 at h; omega, fun h => absurd hv0 h⟩, fun r d m a mr md rd ha => by have := GivesB.ofD (f := f) (fun ww hh => mOpen r d (p.w a) key ww hh hg.ts hg.pl hk) mr md; rw [olP_w] at this; exact this⟩
 ·unfold olO; split <;> simp
 ·unfold olP
  split
  ·next h =>
   refine ⟨h, ?_, fun h => absurd rfl h, fun _ => Nat.zero_le _, Or.inr (Or.inl rfl), hg.n, hg.bh, hg.fd⟩
   show olE p key ≤ (put p.t (olT p key) (olK p key)).size
   have hz : (⟨#[10]⟩ : ByteArray).size = 1 := rfl
   unfold put olE olT olK
   simp only [ByteArray.size_append, ByteArray.size_extract]
   rcases hk with h | h
   ·subst h
    rw [if_neg qd, if_neg qd, if_neg qd]
    simp only [ByteArray.size_append]
    omega
   ·subst h
    rw [if_pos rfl, if_pos rfl, if_pos rfl]
    simp only [ByteArray.size_append]
    omega
  ·exact hg
 ·unfold olP; split <;> exact ⟨rfl, rfl, rfl⟩
 ·unfold olO olP
  split
  ·intro h; exact absurd h qd
  ·intro _; rfl
 ·unfold olO olP
  split
  ·intro _; exact ⟨fun _ => trivial, fun _ => rfl⟩
  ·intro h; exact absurd rfl h
 ·unfold olO olP
  split
  ·intro h; exact absurd h qd
  ·intro _; exact ⟨rfl, rfl, rfl⟩
theorem sShort (HA : AnyOk) (p : Pg) (f : Int → Value) (key : Int) (hg : GoodP p) (hf : GoodF f) (hm : p.mode = 0) (hv0 : p.verb = 0) (hk : key = 120 ∨ key = 88 ∨ key = 68 ∨ key = 67 ∨ key = 115 ∨ key = 83 ∨ key = 89) :
  ∃ O p2 f2, Did p f 151 (fun r => #[.agg #[.pointer (some ⟨r, 0, none⟩)], .int .u8 key]) O p2 f2 (key = 67 ∨ key = 115 ∨ key = 83) := by
 by_cases he : beg p.t p.pl = fin p.t p.pl ∧ (key = 68 ∨ key = 67 ∨ key = 115)
 ·by_cases h68 : key = 68
  ·subst h68
   exact ⟨4, p, f, Did.fail hg hf (fun r d m a mr md rd ha => GivesB.ofW (fun ww hh => mShort_fail r d (p.w a) ww hh hg.ts hg.pl he.1))⟩
  ·obtain ⟨O, p2, D⟩ := sBegin p f 105 hg hf hv0 (Or.inl rfl)
   refine ⟨O, p2, f, (D.fn (fun r d m a mr md rd ha => fun ww hh => mShort_begin r d (p.w a) key O (LA r d m (p.w a) f) (LA r d m (p2.w a) f) [r, d, m] ww hh LA.firm LA.firm (fun _ h => h.1) hg.ts hg.pl he.1 qo (D.c r d m a mr md rd ha))).iff ?_⟩
   simp only [true_iff]
   omega
 ·have hsv : isVb (spV key) := by
   unfold isVb spV
   split
   ·exact Or.inl rfl
   ·split
    ·exact Or.inr (Or.inl rfl)
    ·exact Or.inr (Or.inr (Or.inl rfl))
  have hg1 : GoodP { p with verb := spV key } := hg.begun p.reg p.n (spV key) p.behind p.part hg.n hg.bh
  have hx : nxtB { p with verb := spV key } (spK key) = none := by
   unfold nxtB
   split
   ·rfl
   ·rw [if_neg]
    unfold spK isFind
    rcases hk with h | h | h | h | h | h | h <;> subst h <;> decide
  rcases sBehind HA { p with verb := spV key } f (spK key) hg1 hf hm hsv with ⟨p2, h1, _⟩ | ⟨_, O, p2, f2, D⟩
  ·rw [hx] at h1; cases h1
  ·have hi : spV key = 99 ↔ (key = 67 ∨ key = 115 ∨ key = 83) := by
    unfold spV
    rcases hk with h | h | h | h | h | h | h <;> subst h <;> decide
   refine ⟨O, p2, f2, D.o, D.g, D.gf, D.k, D.e, fun h => (D.i h).trans hi, ⟨D.s.1, fun h => by unfold isV5 at h; omega, fun h => absurd hv0 h⟩, fun r d m a mr md rd ha => fun ww hh => mShort_verb r d (p.w a) key O (LA r d m (p.w a) f) (LA r d m (Pg.w { p with verb := spV key } a) f) (LA r d m (p2.w a) f2) [r, d, m] ww hh LA.firm LA.firm LA.firm (fun _ h => h.1) hg.ts hg.pl qi hk (fun h1 h2 => he ⟨h2, h1⟩) (fun w2 h2 => ⟨h2.1.set_verb _, h2.2.other mr _⟩) (D.c r d m a mr md rd ha)⟩
theorem sCommand (HA : AnyOk) (p : Pg) (f : Int → Value) (key : Int) (hg : GoodP p) (gb : GoodB p) (hf : GoodF f) (hm : p.mode = 0) (hv : p.verb = 0) (hp : p.part = 0) (hu : ¬ key = 117) (hre : ¬ key = 18) (hdot : ¬ key = 46) :
  StN p f 141 (fun r => #[.agg #[.pointer (some ⟨r, 0, none⟩)], .int .u8 key]) (nxtC p key) (insK p key) := by
 have hm1 : ¬ p.mode = 1 := by rw [hm]; decide
 have hc := cnt_le hg.n hg.bh
 have hik : insK p key ↔ (key = 105 ∨ key = 97 ∨ key = 73 ∨ key = 65 ∨ key = 111 ∨ key = 79 ∨ key = 67 ∨ key = 115 ∨ key = 83) := by
  unfold insK
  rw [hv, hp]
  simp
 have nF : ∀ k : Int, key = k → ¬ (k = 102 ∨ k = 116 ∨ k = 70 ∨ k = 84) → isFind key = false := by
  intro k e h
  subst e
  unfold isFind
  simp
  omega
 by_cases k1 : key = 34
 ·have go : ∀ O (p2 : Pg) f2, ∀ r d m (a : Ptr), m ≠ r → m ≠ d → r ≠ d → a.1 = .map (some m) → GivesB 149 #[.pointer (some ⟨r, 1, none⟩)] (LA r d m (p.w a) f) (LA r d m (p2.w a) f2) O [r, d, m] → GivesB 141 #[.agg #[.pointer (some ⟨r, 0, none⟩)], .int .u8 key] (LA r d m (p.w a) f) (LA r d m (p2.w a) f2) O [r, d, m] := fun O p2 f2 r d m a mr md rd ha h ww hh => mCommand_lead r d (p.w a) key O (LA r d m (p.w a) f) (LA r d m (p2.w a) f2) [r, d, m] ww hh LA.firm LA.firm (fun _ h => h.1) k1 h
  cases hw : waits p with
  | true => exact Or.inr ⟨by unfold nxtC; rw [if_pos k1, if_pos hw], 4, p, f, Did.fail hg hf (fun r d m a mr md rd ha => go _ _ _ r d m a mr md rd ha (GivesB.ofW (fun ww hh => mLead_no r d (p.w a) ww hh hw)))⟩
  | false => exact Or.inl ⟨{ p with part := 34 }, by unfold nxtC; rw [if_pos k1, if_neg (by simp [hw])], hg.begun p.reg p.n p.verb p.behind 34 hg.n hg.bh, ⟨gb.vb, Or.inr (Or.inr (Or.inr (Or.inl rfl))), fun h => absurd h hm1⟩, ⟨p.reg, p.n, p.verb, p.behind, 34, rfl⟩, fun r d m a mr md rd ha => go _ _ _ r d m a mr md rd ha (GivesB.ofr (fun ww hh => mLead_yes r d (p.w a) ww hh hw) mr md)⟩
 by_cases k2 : key = 100 ∨ key = 99 ∨ key = 121 ∨ key = 62 ∨ key = 60
 ·exact Or.inl ⟨{ p with verb := key }, by unfold nxtC; rw [if_neg k1, if_pos k2], hg.begun p.reg p.n key p.behind p.part hg.n hg.bh, ⟨Or.inr ⟨by show isVb key; unfold isVb; omega, hm⟩, Or.inl hp, fun h => absurd h hm1⟩, ⟨p.reg, p.n, key, p.behind, p.part, rfl⟩, fun r d m a mr md rd ha => fun ww hh => mCommand_toVerb r d (p.w a) key 0 (LA r d m (p.w a) f) (LA r d m (Pg.w { p with verb := key } a) f) [r, d, m] ww hh LA.firm LA.firm (fun _ h => h.1) k2 (GivesB.ofr (fun w2 h2 => mToVerb r d (p.w a) key w2 h2) mr md)⟩
 by_cases k3 : key = 114
 ·exact Or.inl ⟨{ p with part := key }, by unfold nxtC; rw [if_neg k1, if_neg k2, if_pos (Or.inl k3)], hg.begun p.reg p.n p.verb p.behind key hg.n hg.bh, ⟨gb.vb, Or.inr (Or.inr (Or.inr (Or.inr (Or.inl ⟨k3, hm, hv⟩)))), fun h => absurd h hm1⟩, ⟨p.reg, p.n, p.verb, p.behind, key, rfl⟩, fun r d m a mr md rd ha => fun ww hh => mCommand_r r d (p.w a) key 0 (LA r d m (p.w a) f) (LA r d m (Pg.w { p with part := key } a) f) [r, d, m] ww hh LA.firm LA.firm (fun _ h => h.1) k3 (GivesB.ofr (fun w2 h2 => mAwait r d (p.w a) key w2 h2) mr md)⟩
 by_cases k4 : isFind key = true ∨ key = 103
 ·have hkc : ∀ c, c ∈ kCmd → ¬ key = c := by
   intro c hc e
   subst e
   unfold isFind at k4
   simp only [Bool.or_eq_true, beq_iff_eq] at k4
   simp only [kCmd, List.mem_cons, List.not_mem_nil, or_false] at hc
   omega
  refine Or.inl ⟨{ p with part := key }, by unfold nxtC; rw [if_neg k1, if_neg k2, if_pos (Or.inr k4)], hg.begun p.reg p.n p.verb p.behind key hg.n hg.bh, ⟨gb.vb, ?_, fun h => absurd h hm1⟩, ⟨p.reg, p.n, p.verb, p.behind, key, rfl⟩, fun r d m a mr md rd ha => GivesB.ofR (fun ww hh => mCommand_way r d (p.w a) (Pg.w { p with part := key } a) key 0 ww hh hkc (fun w2 h2 => Calls.mono (mWay_part r d (p.w a) key w2 h2 k4) (fun _ _ ⟨a, b, c⟩ => ⟨a, b, c.mono qi⟩))) mr md⟩
  rcases k4 with h | h
  ·exact Or.inr (Or.inl h)
  ·exact Or.inr (Or.inr (Or.inl h))
 have hnone : nxtC p key = none := by
  unfold nxtC
  rw [if_neg k1, if_neg k2, if_neg]
  rintro (h | h)
  ·exact k3 h
  ·exact k4 h
 have k4' : isFind key = false ∧ ¬ key = 103 := by
  refine ⟨?_, fun e => k4 (Or.inr e)⟩
  cases h : isFind key
  ·rfl
  ·exact absurd (Or.inl h) k4
 refine Or.inr ⟨hnone, ?_⟩
 by_cases k5 : key = 118 ∨ key = 86
 ·refine ⟨1, { p with mode := if key = 86 then 3 else 2, anchor := p.pl }, f, Or.inl rfl, ⟨hg.ts, hg.pl, fun _ => hg.st hm1, fun _ => hg.pl, ?_, hg.n, hg.bh, hg.fd⟩, hf, ⟨rfl, rfl, rfl⟩, (fun h => absurd h qd), (fun _ => ?_), ⟨fun h => absurd h qd, fun h => by unfold isV5 at h; omega, fun h => absurd hv h⟩, fun r d m a mr md rd ha => GivesB.ofR (fun ww hh => mCommand_mark r d (p.w a) key ww hh k5) mr md⟩
  ·show (if key = 86 then (3 : Int) else 2) = 0 ∨ _
   split <;> simp
  ·rw [hik]
   show (if key = 86 then (3 : Int) else 2) = 1 ↔ _
   split <;> omega
 by_cases k6 : key = 120 ∨ key = 88 ∨ key = 68 ∨ key = 67 ∨ key = 115 ∨ key = 83 ∨ key = 89
 ·obtain ⟨O, p2, f2, D⟩ := sShort HA p f key hg hf hm hv k6
  exact ⟨O, p2, f2, (D.fn (fun r d m a mr md rd ha => fun ww hh => mCommand_short r d (p.w a) key O (LA r d m (p.w a) f) (LA r d m (p2.w a) f2) [r, d, m] ww hh LA.firm LA.firm (fun _ h => h.1) k6 (D.c r d m a mr md rd ha))).iff (by rw [hik]; omega)⟩
 by_cases k7 : key = 105 ∨ key = 97 ∨ key = 73 ∨ key = 65
 ·obtain ⟨O, p2, D⟩ := sBegin p f key hg hf hv k7
  exact ⟨O, p2, f, (D.fn (fun r d m a mr md rd ha => fun ww hh => mCommand_begin r d (p.w a) key O (LA r d m (p.w a) f) (LA r d m (p2.w a) f) [r, d, m] ww hh LA.firm LA.firm (fun _ h => h.1) k7 (D.c r d m a mr md rd ha))).iff (by rw [hik]; simp only [true_iff]; omega)⟩
 by_cases k8 : key = 111 ∨ key = 79
 ·obtain ⟨O, p2, D⟩ := sOpen p f key hg hf hv k8
  exact ⟨O, p2, f, (D.fn (fun r d m a mr md rd ha => fun ww hh => mCommand_open r d (p.w a) key O (LA r d m (p.w a) f) (LA r d m (p2.w a) f) [r, d, m] ww hh LA.firm LA.firm (fun _ h => h.1) k8 (D.c r d m a mr md rd ha))).iff (by rw [hik]; simp only [true_iff]; omega)⟩
 have hiF : False ↔ insK p key := by rw [hik]; simp only [false_iff]; omega
 by_cases k9 : key = 112 ∨ key = 80
 ·obtain ⟨s, l, hs, hz⟩ := hf (rdN p.reg)
  obtain ⟨X, q, is, hq, HX⟩ := eLaid p.t s p.pl (max (cnt p) 1) l (key == 112) hg.ts hg.pl hz qo qo
  obtain ⟨O, p2, D⟩ := sEdit p f X q is hg hf hm hq
  exact ⟨O, p2, f, (D.fn (fun r d m a mr md rd ha => fun ww hh => mCommand_lay r d (p.w a) key O (LA r d m (p.w a) f) (LA r d m (p2.w a) f) [r, d, m] ww hh LA.firm LA.firm (fun _ h => h.1) k9 (fun w2 h2 => mLay r d m (p.w a) key O s l X q is (LA r d m (p.w a) f) (LA r d m (p2.w a) f) [r, d, m] w2 h2 LA.firm LA.firm (fun _ h => h.1) ha (tl3_of h2) k9 (fun w3 h3 => rRead m p.reg f s l w3 h3.2 hs) (fun w3 h3 => mSpot r d (p.w a) w3 h3.1 hg.n hg.bh) HX (D.c r d m a mr md rd ha)))).iff hiF⟩
 by_cases k10 : key = 126
 ·subst k10
  obtain ⟨X, q, is, hq, HX⟩ := eTurned p.t p.pl (max (cnt p) 1) hg.ts hg.pl qo
  obtain ⟨O, p2, D⟩ := sEdit p f X q is hg hf hm hq
  exact ⟨O, p2, f, (D.fn (fun r d m a mr md rd ha => fun ww hh => mCommand_turn r d (p.w a) O X q is (LA r d m (p.w a) f) (LA r d m (p2.w a) f) [r, d, m] ww hh LA.firm LA.firm (fun _ h => h.1) (tl3_of hh) (fun w3 h3 => mSpot r d (p.w a) w3 h3.1 hg.n hg.bh) HX (D.c r d m a mr md rd ha))).iff hiF⟩
 by_cases k11 : key = 74
 ·subst k11
  obtain ⟨X, q, is, hq, HX⟩ := eJoined p.t p.pl (max (cnt p) 1) hg.ts hg.pl qo
  obtain ⟨O, p2, D⟩ := sEdit p f X q is hg hf hm hq
  exact ⟨O, p2, f, (D.fn (fun r d m a mr md rd ha => fun ww hh => mCommand_join r d (p.w a) O X q is (LA r d m (p.w a) f) (LA r d m (p2.w a) f) [r, d, m] ww hh LA.firm LA.firm (fun _ h => h.1) (tl3_of hh) (fun w3 h3 => mSpot r d (p.w a) w3 h3.1 hg.n hg.bh) HX (D.c r d m a mr md rd ha))).iff hiF⟩
 have hkc : ∀ c, c ∈ kCmd → ¬ key = c := by
  intro c hc e
  subst e
  simp only [kCmd, List.mem_cons, List.not_mem_nil, or_false] at hc
  omega
 obtain ⟨O, p2, D⟩ := sWay0 HA p f key hg hf hm1 hv k4'.1 k4'.2
 exact ⟨O, p2, f, (D.fn (fun r d m a mr md rd ha => fun ww hh => mCommand_wayB r d (p.w a) key O (LA r d m (p.w a) f) (LA r d m (p2.w a) f) [r, d, m] ww hh LA.firm LA.firm (fun _ h => h.1) hkc (D.c r d m a mr md rd ha))).iff hiF⟩
theorem sTakeN (HA : AnyOk) (p : Pg) (f : Int → Value) (c : UInt8) (hg : GoodP p) (gb : GoodB p) (hf : GoodF f) (hm : p.mode = 0) (hx : p.verb = 0 → p.part = 0 → ¬ (c.toNat : Int) = 117 ∧ ¬ (c.toNat : Int) = 18 ∧ ¬ (c.toNat : Int) = 46) :
  StN p f 137 (fun r => #[.agg #[.pointer (some ⟨r, 0, none⟩)], .int .u8 c.toNat]) (nxt p c.toNat) (insK p c.toNat) := by
 have hm1 : ¬ p.mode = 1 := by rw [hm]; decide
 unfold nxt
 by_cases hp : p.part = 0
 ·rw [if_neg (fun h => h hp)]
  rcases isVb_or gb with hv | hv
  ·rw [if_pos hv]
   cases hd : isD p.n c.toNat with
   | true => exact Or.inl ⟨{ p with n := nextN p.n c.toNat }, by rw [if_pos rfl], hg.begun p.reg _ p.verb p.behind p.part (nextN_le _ _) hg.bh, ⟨gb.vb, gb.pt, fun h => absurd h hm1⟩, ⟨p.reg, _, p.verb, p.behind, p.part, rfl⟩, fun r d m a mr md rd ha => GivesB.ofR (fun ww hh => mTake_digit r d (p.w a) c.toNat ww hh hp hv hg.n hd) mr md⟩
   | false =>
    rw [if_neg qd]
    obtain ⟨x1, x2, x3⟩ := hx hv hp
    exact StN.to (sCommand HA p f c.toNat hg gb hf hm hv hp x1 x2 x3) (fun O p2 f2 r d m a mr md rd ha h ww hh => mTake_cmdB r d (p.w a) c.toNat O (LA r d m (p.w a) f) (LA r d m (p2.w a) f2) [r, d, m] ww hh LA.firm LA.firm (fun _ h => h.1) hp hv hd h)
  ·have hv0 := (vb_flags hv).2
   rw [if_neg hv0]
   cases hd : isD p.behind c.toNat with
   | true => exact Or.inl ⟨{ p with behind := nextN p.behind c.toNat }, by rw [if_pos rfl], hg.begun p.reg p.n p.verb _ p.part hg.n (nextN_le _ _), ⟨gb.vb, gb.pt, fun h => absurd h hm1⟩, ⟨p.reg, p.n, p.verb, _, p.part, rfl⟩, fun r d m a mr md rd ha => GivesB.ofR (fun ww hh => mTake_digitV r d (p.w a) c.toNat ww hh hp hv0 hg.bh hd) mr md⟩
   | false =>
    rw [if_neg qd]
    have hi : p.verb = 99 ↔ insK p c.toNat := by
     unfold insK
     constructor
     ·exact Or.inl
     ·rintro (h | h)
      ·exact h
      ·exact absurd h.1 hv0
    have h1 := StN.to (sBehind HA p f c.toNat hg hf hm hv) (fun O p2 f2 r d m a mr md rd ha h ww hh => mTake_behind r d (p.w a) c.toNat O (LA r d m (p.w a) f) (LA r d m (p2.w a) f2) [r, d, m] ww hh LA.firm LA.firm (fun _ h => h.1) hp hv0 hd h)
    rcases h1 with h1 | ⟨h1, O, p2, f2, D⟩
    ·exact Or.inl h1
    ·exact Or.inr ⟨h1, O, p2, f2, D.iff hi⟩
 ·rw [if_pos hp]
  exact StN.to (sNComp HA p f c hg gb hf hm hp) (fun O p2 f2 r d m a mr md rd ha h ww hh => mTake_partB r d (p.w a) c.toNat O (LA r d m (p.w a) f) (LA r d m (p2.w a) f2) [r, d, m] ww hh LA.firm LA.firm (fun _ h => h.1) hp h)
