/- A part. -/
import Derived.Test.YtlendfhehhacpaaGreatU49
import Derived.Test.YtlendfhehhacpaaGreatU51
set_option linter.unusedVariables false
set_option linter.unusedSimpArgs false
set_option maxRecDepth 100000
set_option maxHeartbeats 8000000
namespace Go.Proofs.YtlendfhehhacpaaGreat
open Go.RowKit Nib Tryz
theorem GoodL.arr {t : ByteArray} {m : Nat} {p : Pg} (h : GoodL t m p) (R : Int × Int × Bool) (hR : R.2.2 = false → 0 ≤ R.1 ∧ R.1 ≤ t.size) : GoodL t m (arrEd p R) := by
 unfold arrEd
 split
 ·exact h
 ·rename_i hz
  have hR' := hR (by cases hh : R.2.2 <;> simp_all)
  have hq : R.1.toNat ≤ t.size := by omega
  rw [h.tx]
  exact ⟨rfl, h.now, h.ts, clm_in hq, clm_settled hq, h.an, h.mo, h.n, h.bh, h.vb, h.pt, h.fd, h.rg⟩
theorem isFind_ne {k : Int} (h : isFind k = true) : ¬ k = 0 ∧ ¬ k = 34 ∧ ¬ k = 103 := by
 simp only [isFind, Bool.or_eq_true, beq_iff_eq] at h
 omega
theorem isFind_flp {k : Int} (h : isFind k = true) : isFind (flp k) = true := by
 simp only [isFind, Bool.or_eq_true, beq_iff_eq] at h
 rcases h with ((h | h) | h) | h <;> subst h <;> decide
def agW (t : ByteArray) (p : Pg) (k : Int) (v : Bool) : Int × Int × Bool := if k = 0 then ((0 : Int), (0 : Int), true) else goWay t p.pl k p.findC (max (cnt p) 1) (decide (0 < cnt p)) v true
theorem lWay0 (HA : AnyOk) (r d m : Nat) (p : Pg) (t : ByteArray) (key : Int) (hg : GoodL t m p) (hv : p.verb = 0) (hk : (isPlainWay key = true ∧ ¬ key = 103) ∨ isFind key = true ∨ key = 103 ∨ key = 59 ∨ key = 44) :
  ∃ O p2, (O = 0 ∨ O = 1 ∨ O = 4) ∧ GoodL t m p2 ∧ GivesR 148 #[.pointer (some ⟨r, 0, none⟩), .int .u8 key] r d p p2 O := by
 have hc := cnt_le hg.n hg.bh
 have hs : p.t.size ≤ 1000 := by rw [hg.tx]; exact hg.ts
 have hin : ∀ (k ch : Int) (given b : Bool), (goWay t p.pl k ch (max (cnt p) 1) given false b).2.2 = false → 0 ≤ (goWay t p.pl k ch (max (cnt p) 1) given false b).1 ∧ (goWay t p.pl k ch (max (cnt p) 1) given false b).1 ≤ t.size := fun k ch given b h => goWay_in k ch given b hg.pl qo h
 have hO : ∀ R : Int × Int × Bool, (if R.2.2 = true then (4 : Int) else 1) = 0 ∨ (if R.2.2 = true then (4 : Int) else 1) = 1 ∨ (if R.2.2 = true then (4 : Int) else 1) = 4 := by intro R; split <;> simp
 rcases hk with ⟨hk, h103⟩ | hk | hk | hk | hk
 ·have h := fun ww => sGo_way t p.pl (cnt p) key 0 false ww hg.ts hg.pl hc hg.st hk (HA t p.pl hg.ts hg.pl)
  have hn1 : isFind key = false ∧ ¬ key = 59 ∧ ¬ key = 44 := by
   simp only [isPlainWay, Bool.or_eq_true, beq_iff_eq] at hk
   refine ⟨?_, by omega, by omega⟩
   simp only [isFind, Bool.or_eq_false_iff, beq_eq_false_iff_ne]
   omega
  have hi := hin key 0 (decide (0 < cnt p)) false
  generalize goWay t p.pl key 0 (max (cnt p) 1) (decide (0 < cnt p)) false false = R at h hi
  exact ⟨_, arrEd p R, hO R, hg.arr R hi, GivesR.of_d (fun ww hh => mWay_go r d p key R ww hh hg.n hg.bh hs hv (by rw [hg.tx]; exact hi) hn1.1 h103 hn1.2.1 hn1.2.2 (by rw [hg.tx]; exact h))⟩
 ·refine ⟨0, { p with part := key }, Or.inl rfl, ?_, GivesR.of_r (fun ww hh => mWay_part r d p key ww hh (Or.inl hk))⟩
  exact ⟨hg.tx, hg.now, hg.ts, hg.pl, hg.st, hg.an, hg.mo, hg.n, hg.bh, hg.vb, Or.inr (Or.inl hk), hg.fd, hg.rg⟩
 ·refine ⟨0, { p with part := key }, Or.inl rfl, ?_, GivesR.of_r (fun ww hh => mWay_part r d p key ww hh (Or.inr hk))⟩
  exact ⟨hg.tx, hg.now, hg.ts, hg.pl, hg.st, hg.an, hg.mo, hg.n, hg.bh, hg.vb, Or.inr (Or.inr hk), hg.fd, hg.rg⟩
 ·subst hk
  have h : ∀ ww, qC 183 #[.agg #[.int .u8 p.fnd, .int .u8 p.findC], .agg #[.string t, .int .i64 (p.pl), .int .i64 (cnt p), .bool false, .bool false]] ww (.tuple #[.agg #[.int .i64 (wayX (agW t p p.fnd false)), .int .i64 (wayK (agW t p p.fnd false))], .bool (wayZ (agW t p p.fnd false))]) := by
   intro ww
   unfold agW
   rcases hg.fd with hf | hf
   ·rw [if_pos hf, hf]; exact sFind_again0 t p.pl (cnt p) p.findC ww
   ·rw [if_neg (isFind_ne hf).1]; exact sFind_again t p.pl (cnt p) p.fnd p.findC _ ww hg.ts hg.pl hc hf
  have hi : (agW t p p.fnd false).2.2 = false → 0 ≤ (agW t p p.fnd false).1 ∧ (agW t p p.fnd false).1 ≤ t.size := by
   unfold agW
   split
   ·intro h; simp at h
   ·exact hin _ _ _ _
  generalize agW t p p.fnd false = R at h hi
  exact ⟨_, arrEd p R, hO R, hg.arr R hi, GivesR.of_d (fun ww hh => mWay_again r d p R ww hh hg.n hg.bh hs hv (by rw [hg.tx]; exact hi) (by rw [hg.tx]; exact h))⟩
 ·subst hk
  have h : ∀ ww, qC 183 #[.agg #[.int .u8 (flp p.fnd), .int .u8 p.findC], .agg #[.string t, .int .i64 (p.pl), .int .i64 (cnt p), .bool false, .bool false]] ww (.tuple #[.agg #[.int .i64 (wayX (agW t p (flp p.fnd) false)), .int .i64 (wayK (agW t p (flp p.fnd) false))], .bool (wayZ (agW t p (flp p.fnd) false))]) := by
   intro ww
   unfold agW
   rcases hg.fd with hf | hf
   ·have h0 : flp p.fnd = 0 := by rw [hf]; decide
    rw [if_pos h0, h0]; exact sFind_again0 t p.pl (cnt p) p.findC ww
   ·rw [if_neg (isFind_ne (isFind_flp hf)).1]; exact sFind_again t p.pl (cnt p) _ p.findC _ ww hg.ts hg.pl hc (isFind_flp hf)
  have hi : (agW t p (flp p.fnd) false).2.2 = false → 0 ≤ (agW t p (flp p.fnd) false).1 ∧ (agW t p (flp p.fnd) false).1 ≤ t.size := by
   unfold agW
   split
   ·intro h; simp at h
   ·exact hin _ _ _ _
  generalize agW t p (flp p.fnd) false = R at h hi
  exact ⟨_, arrEd p R, hO R, hg.arr R hi, GivesR.of_d (fun ww hh => mWay_turned r d p (flp p.fnd) R ww hh hg.n hg.bh hs hv (by rw [hg.tx]; exact hi) (fun ww => sTurned_any p.fnd p.findC ww hg.fd) (by rw [hg.tx]; exact h))⟩
def LX (r d m : Nat) (t : ByteArray) (ww : World) : Prop := ∃ p f, RdAt ww r d p ∧ RgAt ww m f ∧ GoodL t m p
theorem LX.firm {r d m : Nat} {t : ByteArray} : Firm (LX r d m t) := fun _ _ ⟨p, f, h1, h2, h3⟩ hb => ⟨p, f, h1.below hb, h2.below hb, h3⟩
theorem LB.x {r d m : Nat} {t : ByteArray} {a c : Int} {ww : World} (h : LB r d m t a c ww) : LX r d m t ww := by
 obtain ⟨p, f, h1, h2, h3, _⟩ := h
 exact ⟨p, f, h1, h2, h3⟩
theorem GivesB.x {fn : Nat} {args : Array Value} {r d m : Nat} {t : ByteArray} {a c : Int} {A : World → Prop} {O : Int} {T : List Nat} (h : GivesB fn args A (LB r d m t a c) O T) : GivesB fn args A (LX r d m t) O T :=
 fun ww hh => Calls.mono (h ww hh) (fun _ _ ⟨x, y, z⟩ => ⟨x, y.x, z⟩)
theorem GoodL.find {t : ByteArray} {m : Nat} {p : Pg} (h : GoodL t m p) (key : Int) (hp : isFind p.part = true) : GoodL t m { p with fnd := p.part, findC := key } :=
 ⟨h.tx, h.now, h.ts, h.pl, h.st, h.an, h.mo, h.n, h.bh, h.vb, h.pt, Or.inr hp, h.rg⟩
theorem lCompl0 (HA : AnyOk) (r d m : Nat) (p : Pg) (t : ByteArray) (key : Int) (hg : GoodL t m p) (hv : p.verb = 0) (hp : isFind p.part = true ∨ p.part = 103) :
  ∃ O p2, (O = 1 ∨ O = 4) ∧ GoodL t m p2 ∧ GivesR 145 #[.pointer (some ⟨r, 0, none⟩), .int .u8 key] r d p p2 O := by
 have hc := cnt_le hg.n hg.bh
 have hs : p.t.size ≤ 1000 := by rw [hg.tx]; exact hg.ts
 have hO : ∀ R : Int × Int × Bool, (if R.2.2 = true then (4 : Int) else 1) = 1 ∨ (if R.2.2 = true then (4 : Int) else 1) = 4 := by intro R; split <;> simp
 rcases hp with hp | hp
 ·have h := fun ww => sFind_go t p.pl (cnt p) p.part key (decide (0 < cnt p)) ww hg.ts hg.pl hc hp
  have hi := goWay_in (s := t) (p := p.pl) (n := max (cnt p) 1) p.part key (decide (0 < cnt p)) false hg.pl qo
  generalize goWay t p.pl p.part key (max (cnt p) 1) (decide (0 < cnt p)) false false = R at h hi
  exact ⟨_, _, hO R, (hg.find key hp).arr R hi, GivesR.of_d (fun ww hh => mComplete_find r d p key R ww hh hg.n hg.bh hs hv hp (by rw [hg.tx]; exact hi) (by rw [hg.tx]; exact h))⟩
 ·by_cases hk : key = 103
  ·subst hk
   have h := fun ww => sGo_way t p.pl (cnt p) 103 0 false ww hg.ts hg.pl hc hg.st qd (HA t p.pl hg.ts hg.pl)
   have hi := goWay_in (s := t) (p := p.pl) (n := max (cnt p) 1) 103 0 (decide (0 < cnt p)) false hg.pl qo
   generalize goWay t p.pl 103 0 (max (cnt p) 1) (decide (0 < cnt p)) false false = R at h hi
   exact ⟨_, _, hO R, hg.arr R hi, GivesR.of_d (fun ww hh => mComplete_gg r d p R ww hh hg.n hg.bh hs hv hp (by rw [hg.tx]; exact hi) (by rw [hg.tx]; exact h))⟩
  ·exact ⟨4, p, Or.inr rfl, hg, GivesR.of_below (fun ww hh => mComplete_g r d p key ww hh hp hk)⟩
theorem lWayV (HA : AnyOk) (r d m : Nat) (p : Pg) (f : Int → Value) (t : ByteArray) (key : Int) (hg : GoodL t m p) (mr : m ≠ r) (md : m ≠ d) (rd : r ≠ d) (hv : p.verb = 121) (hk : (isPlainWay key = true ∧ ¬ key = 103) ∨ isFind key = true ∨ key = 103 ∨ key = 59 ∨ key = 44 ∨ key = 118 ∨ key = 86) :
  ∃ O, (O = 0 ∨ O = 1 ∨ O = 4) ∧ GivesB 148 #[.pointer (some ⟨r, 0, none⟩), .int .u8 key] (LA r d m p f) (LX r d m t) O [r, d, m] := by
 have hc := cnt_le hg.n hg.bh
 have htk : ∀ (k ch : Int) (given b : Bool), (goWay t p.pl k ch (max (cnt p) 1) given true b).2.2 = false → Takes t p.pl (goWay t p.pl k ch (max (cnt p) 1) given true b) := fun k ch given b h => goWay_takes k ch given b hg.pl hg.st qo h
 have ho : ∀ O : Int, (O = 1 ∨ O = 4) → (O = 0 ∨ O = 1 ∨ O = 4) := fun O h => Or.inr h
 rcases hk with ⟨hk, h103⟩ | hk | hk | hk | hk | hk
 ·have h := fun ww => sGo_wayV t p.pl (cnt p) key 0 false ww hg.ts hg.pl hc hk (HA t p.pl hg.ts hg.pl)
  have hn1 : isFind key = false ∧ ¬ key = 59 ∧ ¬ key = 44 := by
   simp only [isPlainWay, Bool.or_eq_true, beq_iff_eq] at hk
   refine ⟨?_, by omega, by omega⟩
   simp only [isFind, Bool.or_eq_false_iff, beq_eq_false_iff_ne]
   omega
  have hi := htk key 0 (decide (0 < cnt p)) false
  generalize goWay t p.pl key 0 (max (cnt p) 1) (decide (0 < cnt p)) true false = R at h hi
  obtain ⟨O, hO, HR⟩ := lArrive r d m p f t R hg mr md rd hv hi
  exact ⟨O, ho O hO, GivesB.x (fun ww hh => mWay_goB r d p key (wayX R) (wayK R) O (wayZ R) _ _ [r, d, m] ww hh LA.firm LB.firm (fun _ h => h.1) hg.n hg.bh hn1.1 h103 hn1.2.1 hn1.2.2 (by rw [hg.tx, hv]; exact h) HR)⟩
 ·refine ⟨0, Or.inl rfl, GivesB.x (GivesB.of_R (p2 := { p with part := key }) (fun ww hh => (GivesR.of_r (fun ww hh => mWay_part r d p key ww hh (Or.inl hk))) ww hh) ?_ mr md)⟩
  exact ⟨hg.tx, hg.now, hg.ts, hg.pl, hg.st, hg.an, hg.mo, hg.n, hg.bh, hg.vb, Or.inr (Or.inl hk), hg.fd, hg.rg⟩
 ·refine ⟨0, Or.inl rfl, GivesB.x (GivesB.of_R (p2 := { p with part := key }) (fun ww hh => (GivesR.of_r (fun ww hh => mWay_part r d p key ww hh (Or.inr hk))) ww hh) ?_ mr md)⟩
  exact ⟨hg.tx, hg.now, hg.ts, hg.pl, hg.st, hg.an, hg.mo, hg.n, hg.bh, hg.vb, Or.inr (Or.inr hk), hg.fd, hg.rg⟩
 ·subst hk
  have h : ∀ ww, qC 183 #[.agg #[.int .u8 p.fnd, .int .u8 p.findC], .agg #[.string t, .int .i64 (p.pl), .int .i64 (cnt p), .bool true, .bool false]] ww (.tuple #[.agg #[.int .i64 (wayX (agW t p p.fnd true)), .int .i64 (wayK (agW t p p.fnd true))], .bool (wayZ (agW t p p.fnd true))]) := by
   intro ww
   unfold agW
   rcases hg.fd with hf | hf
   ·rw [if_pos hf, hf]; exact sFind_again0V t p.pl (cnt p) p.findC ww
   ·rw [if_neg (isFind_ne hf).1]; exact sFind_againV t p.pl (cnt p) p.fnd p.findC _ ww hg.ts hg.pl hc hf
  have hi : (agW t p p.fnd true).2.2 = false → Takes t p.pl (agW t p p.fnd true) := by
   unfold agW
   split
   ·intro h; simp at h
   ·exact htk _ _ _ _
  generalize agW t p p.fnd true = R at h hi
  obtain ⟨O, hO, HR⟩ := lArrive r d m p f t R hg mr md rd hv hi
  exact ⟨O, ho O hO, GivesB.x (fun ww hh => mWay_againB r d p (wayX R) (wayK R) O (wayZ R) _ _ [r, d, m] ww hh LA.firm LB.firm (fun _ h => h.1) LB.find hg.n hg.bh (by rw [hg.tx, hv]; exact h) HR)⟩
 ·subst hk
  have h : ∀ ww, qC 183 #[.agg #[.int .u8 (flp p.fnd), .int .u8 p.findC], .agg #[.string t, .int .i64 (p.pl), .int .i64 (cnt p), .bool true, .bool false]] ww (.tuple #[.agg #[.int .i64 (wayX (agW t p (flp p.fnd) true)), .int .i64 (wayK (agW t p (flp p.fnd) true))], .bool (wayZ (agW t p (flp p.fnd) true))]) := by
   intro ww
   unfold agW
   rcases hg.fd with hf | hf
   ·have h0 : flp p.fnd = 0 := by rw [hf]; decide
    rw [if_pos h0, h0]; exact sFind_again0V t p.pl (cnt p) p.findC ww
   ·rw [if_neg (isFind_ne (isFind_flp hf)).1]; exact sFind_againV t p.pl (cnt p) _ p.findC _ ww hg.ts hg.pl hc (isFind_flp hf)
  have hi : (agW t p (flp p.fnd) true).2.2 = false → Takes t p.pl (agW t p (flp p.fnd) true) := by
   unfold agW
   split
   ·intro h; simp at h
   ·exact htk _ _ _ _
  generalize agW t p (flp p.fnd) true = R at h hi
  obtain ⟨O, hO, HR⟩ := lArrive r d m p f t R hg mr md rd hv hi
  exact ⟨O, ho O hO, GivesB.x (fun ww hh => mWay_turnedB r d p (flp p.fnd) (wayX R) (wayK R) O (wayZ R) _ _ [r, d, m] ww hh LA.firm LB.firm (fun _ h => h.1) hg.n hg.bh (fun ww => sTurned_any p.fnd p.findC ww hg.fd) (by rw [hg.tx, hv]; exact h) HR)⟩
 ·have hpw : isPlainWay key = false ∧ isFind key = false ∧ ¬ key = 103 ∧ ¬ key = 59 ∧ ¬ key = 44 := by
   rcases hk with hk | hk <;> subst hk <;> decide
  have h := fun ww => sGo_none t p.pl (cnt p) key true false ww hpw.1
  refine ⟨4, Or.inr (Or.inr rfl), GivesB.x (a := p.fnd) (c := p.findC) (fun ww hh => mWay_goB r d p key 0 0 4 false _ _ [r, d, m] ww hh LA.firm LB.firm (fun _ h => h.1) hg.n hg.bh hpw.2.1 hpw.2.2.1 hpw.2.2.2.1 hpw.2.2.2.2 (by rw [hg.tx, hv]; exact h) (fun w2 h2 => Calls.mono (mArrive_fail r 0 0 (LA r d m p f) [r, d, m] w2 h2 LA.firm) ?_))⟩
  rintro e w' ⟨rfl, h1, h2⟩
  exact ⟨rfl, ⟨p, f, h1.1, h1.2, hg, rfl, rfl⟩, h2⟩
theorem lComplV (HA : AnyOk) (r d m : Nat) (p : Pg) (f : Int → Value) (t : ByteArray) (key : Int) (hg : GoodL t m p) (mr : m ≠ r) (md : m ≠ d) (rd : r ≠ d) (hv : p.verb = 121) (hp : isFind p.part = true ∨ p.part = 103) :
  ∃ O, (O = 1 ∨ O = 4) ∧ GivesB 145 #[.pointer (some ⟨r, 0, none⟩), .int .u8 key] (LA r d m p f) (LX r d m t) O [r, d, m] := by
 have hc := cnt_le hg.n hg.bh
 have htk : ∀ (k ch : Int) (given b : Bool), (goWay t p.pl k ch (max (cnt p) 1) given true b).2.2 = false → Takes t p.pl (goWay t p.pl k ch (max (cnt p) 1) given true b) := fun k ch given b h => goWay_takes k ch given b hg.pl hg.st qo h
 rcases hp with hp | hp
 ·have h := fun ww => sFind_goV t p.pl (cnt p) p.part key (decide (0 < cnt p)) ww hg.ts hg.pl hc hp
  have hi := htk p.part key (decide (0 < cnt p)) false
  generalize goWay t p.pl p.part key (max (cnt p) 1) (decide (0 < cnt p)) true false = R at h hi
  obtain ⟨O, hO, HR⟩ := lArrive r d m { p with fnd := p.part, findC := key } f t R (hg.find key hp) mr md rd hv hi
  refine ⟨O, hO, GivesB.x (fun ww hh => mComplete_findB r d p key (wayX R) (wayK R) O (wayZ R) (LA r d m p f) (LA r d m { p with fnd := p.part, findC := key } f) _ [r, d, m] ww hh LA.firm LA.firm LB.firm (fun _ h => h.1) (fun _ h => h.1) LB.find qi hg.n hg.bh hp (fun w2 h2 => ⟨(h2.1.set_fnd p.part).set_findC key, (h2.2.other md _).other md _⟩) (by rw [hg.tx, hv]; exact h) HR)⟩
 ·by_cases hk : key = 103
  ·subst hk
   have h := fun ww => sGo_wayV t p.pl (cnt p) 103 0 false ww hg.ts hg.pl hc qd (HA t p.pl hg.ts hg.pl)
   have hi := htk 103 0 (decide (0 < cnt p)) false
   generalize goWay t p.pl 103 0 (max (cnt p) 1) (decide (0 < cnt p)) true false = R at h hi
   obtain ⟨O, hO, HR⟩ := lArrive r d m p f t R hg mr md rd hv hi
   exact ⟨O, hO, GivesB.x (fun ww hh => mComplete_ggB r d p (wayX R) (wayK R) O (wayZ R) _ _ [r, d, m] ww hh LA.firm LB.firm (fun _ h => h.1) hg.n hg.bh hp (by rw [hg.tx, hv]; exact h) HR)⟩
  ·exact ⟨4, Or.inr rfl, GivesB.x (GivesB.of_R (GivesR.of_below (fun ww hh => mComplete_g r d p key ww hh hp hk)) hg mr md)⟩
def LKey (key : Int) : Prop := (isPlainWay key = true ∧ ¬ key = 103) ∨ isFind key = true ∨ key = 103 ∨ key = 59 ∨ key = 44 ∨ key = 118 ∨ key = 86 ∨ key = 121 ∨ (49 ≤ key ∧ key ≤ 57)
theorem nextN_le (n : Nat) (c : Int) : nextN n c ≤ 99 := by unfold nextN; split <;> omega
theorem mMCommand_y (r d : Nat) (p : Pg) (O : Int) (i j : Int) (l : Bool) (A B : World → Prop) (T : List Nat) (w : World) (hA : A w) (fA : Firm A) (fB : Firm B) (hr : HasR A r d p) (hTl : ∀ k, k ∈ T → k < w.heap.size)
  (HM : Hid (∀ ww, A ww → qC 313 #[.agg #[.pointer (some ⟨r, 0, none⟩)]] ww (.agg #[.int .i64 i, .int .i64 j, .bool l])))
  (HD : GivesB 146 #[.pointer (some ⟨r, 0, none⟩), .int .u8 121, .agg #[.int .i64 i, .int .i64 j, .bool l]] A B O T) :
  Calls Tryz.prog 310 #[.agg #[.pointer (some ⟨r, 0, none⟩)], .int .u8 121] w fun e w' => e = .returned (.int .i64 O) ∧ B w' ∧ Upd T w w' := by
 have hTw : w.heap.size ∉ T := fun hk => by have := hTl _ hk; omega
 go_enter func310, ntmps310
 have g0 : (w.alloc (.cells #[.pointer (some ⟨r, 0, none⟩)] 81)).cell? ⟨w.heap.size, 0, none⟩ = some (.pointer (some ⟨r, 0, none⟩)) := by simp
 go_wp2_with fail
 go_region_held3 (fun ww => ww.cell? ⟨w.heap.size, 0, none⟩ = some (.pointer (some ⟨r, 0, none⟩))) ((first | (go_simp; done) | ((repeat exact qM); done))) (first | (go_at_call 313; refine Calls.mono (HM.out _ (fA _ _ hA qB)) ?_; rintro r1 w1 ⟨rfl, h1⟩; have hz1 := h1.size; (try simp at hz1); (try have ⟨hl1_0, hk1_0⟩ := qL w.heap.size w1.heap.size)) | (go_at_call 146; refine Calls.mono (HD.out _ (fA _ _ hA qB)) ?_; rintro r2 w2 ⟨rfl, h2, u2⟩; have hz2 := u2.size; (try simp at hz2); have a1 := u2.was (b := w.heap.size) (o := 0) (v := .pointer (some ⟨r, 0, none⟩)) qM hTw))
 go_wp2
 go_ret
 refine ⟨rfl, ?_, ?_⟩
 ·exact (fB _ _ h2 qB)
 ·repeat exact qU
theorem mMTake_cmdB (r d : Nat) (p : Pg) (key O : Int) (A B : World → Prop) (T : List Nat) (w : World) (hA : A w) (fA : Firm A) (fB : Firm B) (hr : HasR A r d p) (hp : p.part = 0) (hv : p.verb = 0) (hd : isD p.n key = false)
  (HC : GivesB 310 #[.agg #[.pointer (some ⟨r, 0, none⟩)], .int .u8 key] A B O T) :
  Calls Tryz.prog 309 #[.agg #[.pointer (some ⟨r, 0, none⟩)], .int .u8 key] w fun e w' => e = .returned (.int .i64 O) ∧ B w' ∧ Upd T w w' := by
 have H := hr w hA
 have HD : Hid (∀ ww, RdAt ww r d p → qC 139 #[.pointer (some ⟨r, 1, none⟩), .int .u8 key] ww (.bool false)) := fun ww hh => mDigit_no r d p key ww hh hv hd
 obtain ⟨b0, b1, b2, b3, b4, b5, bz, bl⟩ := H.bg
 rw [hp] at b5
 rw [hv] at b3
 clear b1 b2 b4 hp hv hd
 have l1 : r < w.heap.size + 1 := by omega
 go_enter func309, ntmps309
 exact qt35
theorem GivesB.ofG {fn : Nat} {args : Array Value} {r d m : Nat} {p p2 : Pg} {O : Int} {t : ByteArray} {f : Int → Value} (h : GivesR fn args r d p p2 O) (hg : GoodL t m p2) (mr : m ≠ r) (md : m ≠ d) : GivesB fn args (LA r d m p f) (LX r d m t) O [r, d, m] := GivesB.x (GivesB.of_R h hg mr md)
theorem qt33 {P : Prop} (h : P := by
  rcases hk with h | h | h | h | h | h | h | h | h
  ·exact Or.inl h
  ·exact Or.inr (Or.inl h)
  ·exact Or.inr (Or.inr (Or.inl h))
  ·exact Or.inr (Or.inr (Or.inr (Or.inl h)))
  ·exact Or.inr (Or.inr (Or.inr (Or.inr h)))
  ·exact absurd (Or.inl h) hvv
  ·exact absurd (Or.inr h) hvv
  ·exact absurd h hy
  ·exfalso
   simp only [isD, decide_eq_false_iff_not] at hd
   omega
 ) : P := h
theorem lTakeN (HA : AnyOk) (r d m : Nat) (p : Pg) (f : Int → Value) (t : ByteArray) (key : Int) (hg : GoodL t m p) (mr : m ≠ r) (md : m ≠ d) (rd : r ≠ d) (hm : p.mode = 0) (hk : LKey key) :
  ∃ O, (O = 0 ∨ O = 1 ∨ O = 4) ∧ GivesB 137 #[.agg #[.pointer (some ⟨r, 0, none⟩)], .int .u8 key] (LA r d m p f) (LX r d m t) O [r, d, m] := by
 have hno : ¬ key = 117 ∧ ¬ key = 85 ∧ ¬ key = 105 ∧ ¬ key = 97 := by
  unfold LKey isPlainWay isFind at hk
  simp only [Bool.or_eq_true, beq_iff_eq] at hk
  omega
 by_cases hp : p.part = 0
 ·rcases hg.vb with hv | ⟨hv, _⟩
  ·cases hd : isD p.n key with
   | true =>
    exact ⟨0, Or.inl rfl, GivesB.ofG (p2 := { p with n := nextN p.n key }) (fun ww hh => mTake_digit r d p key ww hh hp hv hg.n hd) ⟨hg.tx, hg.now, hg.ts, hg.pl, hg.st, hg.an, hg.mo, nextN_le _ _, hg.bh, hg.vb, hg.pt, hg.fd, hg.rg⟩ mr md⟩
   | false =>
    by_cases hy : key = 121
    ·subst hy
     exact ⟨0, Or.inl rfl, GivesB.ofG (p2 := { p with verb := 121 }) (fun ww hh => mTake_cmd r d p _ 121 0 ww hh hp hv hd (fun w2 h2 => mCommand_verb r d p 121 w2 h2 (Or.inr rfl))) ⟨hg.tx, hg.now, hg.ts, hg.pl, hg.st, hg.an, hg.mo, hg.n, hg.bh, Or.inr ⟨rfl, hm⟩, hg.pt, hg.fd, hg.rg⟩ mr md⟩
    ·by_cases hvv : key = 118 ∨ key = 86
     ·refine ⟨1, Or.inr (Or.inl rfl), GivesB.ofG (p2 := { p with mode := if key = 86 then 3 else 2, anchor := p.pl }) (fun ww hh => mTake_cmd r d p _ key 1 ww hh hp hv hd (fun w2 h2 => mCommand_mark r d p key w2 h2 hvv)) ⟨hg.tx, hg.now, hg.ts, hg.pl, hg.st, hg.pl, ?_, hg.n, hg.bh, Or.inl hv, hg.pt, hg.fd, hg.rg⟩ mr md⟩
      show (if key = 86 then (3 : Int) else 2) = 0 ∨ _ ∨ _
      split
      ·exact Or.inr (Or.inr rfl)
      ·exact Or.inr (Or.inl rfl)
     ·have hw : (isPlainWay key = true ∧ ¬ key = 103) ∨ isFind key = true ∨ key = 103 ∨ key = 59 ∨ key = 44 := by
       exact qt33
      have hkc : ∀ c, c ∈ kCmd → ¬ key = c := by
       intro c hc e
       subst e
       unfold isPlainWay isFind at hw
       simp only [Bool.or_eq_true, beq_iff_eq] at hw
       simp only [kCmd, List.mem_cons, List.not_mem_nil, or_false] at hc
       omega
      obtain ⟨O, p2, hO, hg2, h⟩ := lWay0 HA r d m p t key hg hv hw
      exact ⟨O, hO, GivesB.ofG (fun ww hh => mTake_cmd r d p p2 key O ww hh hp hv hd (fun w2 h2 => mCommand_way r d p p2 key O w2 h2 hkc h)) hg2 mr md⟩
  ·have hv0 : ¬ p.verb = 0 := by rw [hv]; decide
   cases hd : isD p.behind key with
   | true =>
    exact ⟨0, Or.inl rfl, GivesB.ofG (p2 := { p with behind := nextN p.behind key }) (fun ww hh => mTake_digitV r d p key ww hh hp hv0 hg.bh hd) ⟨hg.tx, hg.now, hg.ts, hg.pl, hg.st, hg.an, hg.mo, hg.n, nextN_le _ _, hg.vb, hg.pt, hg.fd, hg.rg⟩ mr md⟩
   | false =>
    by_cases hy : key = 121
    ·have hpl := hg.pl
     have hq : lnsTo p ≤ t.size := by
      have h1 := lns_pos p.t
      have := (att_in (s := p.t) (m := min (lin p.t p.pl + (max (cnt p) 1 - 1)) (lns p.t - 1)) qo).1
      rw [hg.tx] at this
      unfold lnsTo
      rw [hg.tx]
      exact this
     have h1 := fin_le hpl
     have h2 := fin_le hq
     have h3 := fin_ge t p.pl
     have h4 := beg_le t p.pl
     obtain ⟨O, hO, HD⟩ := lDo r d m p f t (min (beg t p.pl) (beg t (lnsTo p))) (max (fin t p.pl) (fin t (lnsTo p))) true hg mr md qo qo
     have HL : ∀ ww, LA r d m p f ww → qC 147 #[.agg #[.pointer (some ⟨r, 0, none⟩)]] ww (.agg #[.int .i64 ((min (beg t p.pl) (beg t (lnsTo p)) : Nat) : Int), .int .i64 ((max (fin t p.pl) (fin t (lnsTo p)) : Nat) : Int), .bool true]) := by
      intro ww hh
      have := mLines r d p ww hh.1 (by rw [hg.tx]; exact hg.ts) (by rw [hg.tx]; exact hpl) hg.n hg.bh (cnt_le hg.n hg.bh)
      rw [hg.tx] at this
      rw [show ((min (beg t p.pl) (beg t (lnsTo p)) : Nat) : Int) = min (beg t p.pl : Int) (beg t (lnsTo p)) by omega, show ((max (fin t p.pl) (fin t (lnsTo p)) : Nat) : Int) = max (fin t p.pl : Int) (fin t (lnsTo p)) by omega]
      exact this
     refine ⟨O, Or.inr hO, GivesB.x (a := p.fnd) (c := p.findC) (fun ww hh => mTake_behind r d p key O (LA r d m p f) _ [r, d, m] ww hh LA.firm LB.firm (fun _ h => h.1) hp hv0 hd (fun w2 h2 => Calls.mono (mBehind_lines r d p key O _ _ (LA r d m p f) _ [d, m] w2 h2 LA.firm LB.firm (fun _ h => h.1) (by simp [rd, mr.symm]) (by intro k hk; simp at hk; rcases hk with hk | hk; (rw [hk]; exact h2.1.dk.lt); (rw [hk]; exact h2.2.lt)) (by rw [hy, hv]) HL (by rw [hv]; exact HD)) (fun _ _ ⟨x, y, z⟩ => ⟨x, y, z.mono qi⟩)))⟩
    ·have hw : (isPlainWay key = true ∧ ¬ key = 103) ∨ isFind key = true ∨ key = 103 ∨ key = 59 ∨ key = 44 ∨ key = 118 ∨ key = 86 := by
      rcases hk with h | h | h | h | h | h | h | h | h
      ·exact Or.inl h
      ·exact Or.inr (Or.inl h)
      ·exact Or.inr (Or.inr (Or.inl h))
      ·exact Or.inr (Or.inr (Or.inr (Or.inl h)))
      ·exact Or.inr (Or.inr (Or.inr (Or.inr (Or.inl h))))
      ·exact Or.inr (Or.inr (Or.inr (Or.inr (Or.inr (Or.inl h)))))
      ·exact Or.inr (Or.inr (Or.inr (Or.inr (Or.inr (Or.inr h)))))
      ·exact absurd h hy
      ·exfalso
       simp only [isD, decide_eq_false_iff_not] at hd
       omega
     obtain ⟨O, hO, h⟩ := lWayV HA r d m p f t key hg mr md rd hv hw
     exact ⟨O, hO, fun ww hh => mTake_behind r d p key O (LA r d m p f) _ [r, d, m] ww hh LA.firm LX.firm (fun _ h => h.1) hp hv0 hd (fun w2 h2 => mBehind_way r d p key O (LA r d m p f) _ [r, d, m] w2 h2 LA.firm LX.firm (fun _ h => h.1) (by rw [hv]; exact hy) hno.2.2.1 hno.2.2.2 h)⟩
 ·have hp' : isFind p.part = true ∨ p.part = 103 := by
   rcases hg.pt with h | h
   ·exact absurd h hp
   ·exact h
  rcases hg.vb with hv | ⟨hv, _⟩
  ·obtain ⟨O, p2, hO, hg2, h⟩ := lCompl0 HA r d m p t key hg hv hp'
   exact ⟨O, Or.inr hO, GivesB.ofG (fun ww hh => mTake_part r d p p2 key O ww hh hp (fun w2 h2 => mNComplete r d p p2 key O w2 h2 (by
    rcases hp' with h | h
    ·exact Or.inl h
    ·exact Or.inr ⟨h, hno.1, hno.2.1⟩) h)) hg2 mr md⟩
  ·obtain ⟨O, hO, h⟩ := lComplV HA r d m p f t key hg mr md rd hv hp'
   exact ⟨O, Or.inr hO, fun ww hh => mTake_partB r d p key O (LA r d m p f) _ [r, d, m] ww hh LA.firm LX.firm (fun _ h => h.1) hp (fun w2 h2 => mNCompleteB r d p key O (LA r d m p f) _ [r, d, m] w2 h2 LA.firm LX.firm (fun _ h => h.1) hp' (by rw [hv]; decide) h)⟩
