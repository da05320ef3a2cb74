/- A part. -/
import Derived.Test.YtlendfhehhacpaaGreatT37
import Derived.Test.YtlendfhehhacpaaGreatT42
import Derived.Test.YtlendfhehhacpaaGreatT41
set_option linter.unusedVariables false
set_option linter.unusedSimpArgs false
set_option maxRecDepth 100000
set_option maxHeartbeats 8000000
namespace Go.Proofs.YtlendfhehhacpaaGreat
open Go.RowKit Nib Tryz
structure GoodC (m : Nat) (p : Pg) : Prop where
 ts : p.t.size ≤ 1000
 pl : p.pl ≤ p.t.size
 st : ¬ p.mode = 1 → p.pl ≤ lst p.t p.pl
 an : (p.mode = 2 ∨ p.mode = 3) → p.anchor ≤ p.t.size
 mo : p.mode = 0 ∨ p.mode = 1 ∨ p.mode = 2 ∨ p.mode = 3
 n : p.n ≤ 99
 bh : p.behind ≤ 99
 fd : p.fnd = 0 ∨ isFind p.fnd = true
 rg : p.regs = .map (some m)
structure GoodP (p : Pg) : Prop where
 ts : p.t.size ≤ 1000
 pl : p.pl ≤ p.t.size
 st : ¬ p.mode = 1 → p.pl ≤ lst p.t p.pl
 an : (p.mode = 2 ∨ p.mode = 3) → p.anchor ≤ p.t.size
 mo : p.mode = 0 ∨ p.mode = 1 ∨ p.mode = 2 ∨ p.mode = 3
 n : p.n ≤ 99
 bh : p.behind ≤ 99
 fd : p.fnd = 0 ∨ isFind p.fnd = true
theorem GoodC.p {m : Nat} {p : Pg} (h : GoodC m p) : GoodP p := ⟨h.ts, h.pl, h.st, h.an, h.mo, h.n, h.bh, h.fd⟩
theorem GoodP.c {m : Nat} {p : Pg} (h : GoodP p) (e : p.regs = .map (some m)) : GoodC m p := ⟨h.ts, h.pl, h.st, h.an, h.mo, h.n, h.bh, h.fd, e⟩
abbrev Ptr := Value × Value × Value
abbrev Pg.w (p : Pg) (a : Ptr) : Pg := { p with regs := a.1, back := a.2.1, forth := a.2.2 }
def isVb (v : Int) : Prop := v = 100 ∨ v = 99 ∨ v = 121 ∨ v = 62 ∨ v = 60 ∨ v = 117 ∨ v = 85
def isV5 (v : Int) : Prop := v = 100 ∨ v = 62 ∨ v = 60 ∨ v = 117 ∨ v = 85
structure GoodB (p : Pg) : Prop where
 vb : p.verb = 0 ∨ (isVb p.verb ∧ p.mode = 0)
 pt : p.part = 0 ∨ isFind p.part = true ∨ p.part = 103 ∨ p.part = 34 ∨ (p.part = 114 ∧ p.mode = 0 ∧ p.verb = 0) ∨ ((p.part = 105 ∨ p.part = 97) ∧ (¬ p.verb = 0 ∨ p.mode = 2 ∨ p.mode = 3))
 ins : p.mode = 1 → p.n = 0 ∧ p.verb = 0 ∧ p.behind = 0 ∧ p.part = 0 ∧ p.reg = 0
def GoodF (f : Int → Value) : Prop := ∀ c, ∃ t l, f c = .agg #[.string t, .bool l] ∧ t.size ≤ 1001
theorem GoodF.set {f : Int → Value} (h : GoodF f) (c : Int) (t : ByteArray) (l : Bool) (ht : t.size ≤ 1001) : GoodF (rgSet f c (.agg #[.string t, .bool l])) := by
 intro k
 unfold rgSet
 split
 ·exact ⟨t, l, rfl, ht⟩
 ·exact h k
theorem GoodF.w {f : Int → Value} (h : GoodF f) (c : Int) (t : ByteArray) (l : Bool) (ht : t.size ≤ 1001) : GoodF (rgW f c t l) := by
 unfold rgW
 split
 ·exact h.set 34 t l ht
 ·exact (h.set 34 t l ht).set c t l ht
def Desk (p p2 : Pg) : Prop := ∃ t pl an mo, p2 = { p with t := t, pl := pl, anchor := an, mode := mo }
theorem Desk.refl (p : Pg) : Desk p p := ⟨p.t, p.pl, p.anchor, p.mode, rfl⟩
theorem tkn_size {s : ByteArray} {i j : Nat} {l : Bool} (hs : s.size ≤ 1000) : (tkn s i j l).size ≤ 1001 := by
 unfold tkn
 rw [ByteArray.size_append, ByteArray.size_extract]
 have h1 : (⟨#[10]⟩ : ByteArray).size = 1 := rfl
 have h2 : (⟨#[]⟩ : ByteArray).size = 0 := rfl
 split <;> omega
theorem qt42 {P : Prop} (h : P := by
  have hz := cutS_size hij hj
  refine ⟨1, { p with t := cutS p.t i j, mode := 1, anchor := 0, pl := i }, rgW f p.reg (tkn p.t i j l) l, Or.inl rfl, ?_, hf.w _ _ _ (tkn_size hg.ts), ⟨_, _, _, _, rfl⟩, fun h => absurd h qd, fun _ => by rw [if_pos rfl], fun h => by unfold isV5 at h; omega, fun r d m a mr md ha ww hh => ?_⟩
  ·exact ⟨by show (cutS p.t i j).size ≤ 1000; have := hg.ts; omega, by show i ≤ (cutS p.t i j).size; omega, fun h => absurd rfl h, fun _ => Nat.zero_le _, Or.inr (Or.inl rfl), hg.n, hg.bh, hg.fd⟩
  ·refine Calls.mono (mDo_change r d m (p.w a) i j l (cutS p.t i j) i f ww hh.1 hh.2 ha mr md hg.ts (by have := hg.ts; omega) hij hj (fun w2 => vDo_c p.t i j p.pl l w2 hg.ts hij hj)) ?_
   rintro e w' ⟨rfl, h1, h2, h3⟩
   exact ⟨rfl, ⟨h1, h2⟩, h3⟩
 ) : P := h
theorem sDo (v : Int) (p : Pg) (f : Int → Value) (i j : Nat) (l : Bool) (hg : GoodP p) (hf : GoodF f) (hv : isVb v) (hij : i ≤ j) (hj : j ≤ p.t.size) :
  ∃ O p2 f2, (O = 1 ∨ O = 2 ∨ O = 4) ∧ GoodP p2 ∧ GoodF f2 ∧ Desk p p2 ∧ (O = 4 → p2 = p) ∧ (¬ O = 4 → p2.mode = if v = 99 then 1 else 0) ∧ (isV5 v → O = 2 ∨ O = 4) ∧ ∀ r d m (a : Ptr), m ≠ r → m ≠ d → a.1 = .map (some m) → GivesB 146 #[.pointer (some ⟨r, 0, none⟩), .int .u8 v, .agg #[.int .i64 i, .int .i64 j, .bool l]] (LA r d m (p.w a) f) (LA r d m (p2.w a) f2) O [d, m] := by
 have fail : (i = j ∧ l = false) → ¬ v = 99 → ∃ O p2 f2, (O = 1 ∨ O = 2 ∨ O = 4) ∧ GoodP p2 ∧ GoodF f2 ∧ Desk p p2 ∧ (O = 4 → p2 = p) ∧ (¬ O = 4 → p2.mode = if v = 99 then 1 else 0) ∧ (isV5 v → O = 2 ∨ O = 4) ∧ ∀ r d m (a : Ptr), m ≠ r → m ≠ d → a.1 = .map (some m) → GivesB 146 #[.pointer (some ⟨r, 0, none⟩), .int .u8 v, .agg #[.int .i64 i, .int .i64 j, .bool l]] (LA r d m (p.w a) f) (LA r d m (p2.w a) f2) O [d, m] := by
  rintro ⟨rfl, rfl⟩ hv9
  refine ⟨4, p, f, Or.inr (Or.inr rfl), hg, hf, Desk.refl p, fun _ => rfl, fun h => absurd rfl h, fun _ => Or.inr rfl, fun r d m a mr md ha ww hh => Calls.mono (mDo_nothing v r i ww hv9) ?_⟩
  rintro e w' ⟨rfl, hb⟩
  exact ⟨rfl, ⟨hh.1.below hb, hh.2.below hb⟩, Upd.of_below hb⟩
 have mk : ∀ (X : ByteArray) (q : Nat), X.size ≤ 1000 → q ≤ X.size → GoodP { p with t := X, mode := 0, anchor := 0, pl := clm X q } := fun X q h1 h2 =>
  ⟨h1, clm_in h2, fun _ => clm_settled h2, fun _ => Nat.zero_le _, Or.inl rfl, hg.n, hg.bh, hg.fd⟩
 by_cases hne : i = j ∧ l = false
 ·by_cases h99 : v = 99
  ·subst h99
   exact qt42
  ·exact fail hne h99
 ·rcases hv with hv | hv | hv | hv
  ·subst hv
   obtain ⟨X, q, h1, h2, _, HD⟩ := vDo_d_ex p.t i j p.pl l hg.ts hij hj
   refine ⟨2, { p with t := X, mode := 0, anchor := 0, pl := clm X q }, rgW f p.reg (tkn p.t i j l) l, Or.inr (Or.inl rfl), mk X q h1 h2, hf.w _ _ _ (tkn_size hg.ts), ⟨_, _, _, _, rfl⟩, fun h => absurd h qd, fun _ => by rw [if_neg qd], fun _ => Or.inl rfl, fun r d m a mr md ha ww hh => ?_⟩
   refine Calls.mono (mDo_write 100 r d m (p.w a) i j l X q f ww hh.1 hh.2 ha mr md hg.ts h1 hij hj hne h2 (Or.inl rfl) HD) ?_
   rintro e w' ⟨rfl, h1, h2, h3⟩
   exact ⟨rfl, ⟨h1, h2⟩, h3⟩
  ·subst hv
   exact qt42
  ·subst hv
   obtain ⟨q, h2, HD⟩ := vDo_y_ex p.t i j p.pl l hg.ts hij hj hg.pl
   refine ⟨1, { p with t := p.t, mode := 0, anchor := 0, pl := clm p.t q }, rgW f p.reg (tkn p.t i j l) l, Or.inl rfl, mk p.t q hg.ts h2, hf.w _ _ _ (tkn_size hg.ts), ⟨_, _, _, _, rfl⟩, fun h => absurd h qd, fun _ => by rw [if_neg qd], fun h => by unfold isV5 at h; omega, fun r d m a mr md ha ww hh => ?_⟩
   refine Calls.mono (mDo_write 121 r d m (p.w a) i j l p.t q f ww hh.1 hh.2 ha mr md hg.ts hg.ts hij hj hne h2 (Or.inr rfl) HD) ?_
   rintro e w' ⟨rfl, h1, h2, h3⟩
   exact ⟨rfl, ⟨h1, h2⟩, h3⟩
  ·have hv4 : v = 62 ∨ v = 60 ∨ v = 117 ∨ v = 85 := hv
   have h99 : ¬ v = 99 := by omega
   obtain ⟨X, q, h2, HD⟩ := vDo_p_ex v p.t i j p.pl l hg.ts hij hj hg.pl hne hv4
   by_cases hX : X.size ≤ 1000
   ·refine ⟨2, { p with t := X, mode := 0, anchor := 0, pl := clm X q }, f, Or.inr (Or.inl rfl), mk X q hX h2, hf, ⟨_, _, _, _, rfl⟩, fun h => absurd h qd, fun _ => by rw [if_neg h99], fun _ => Or.inl rfl, fun r d m a mr md ha ww hh => ?_⟩
    refine Calls.mono (mDo_plain v r d m (p.w a) i j l X q f ww hh.1 hh.2 ha mr md hg.ts hX hij hj hne h2 hv4 HD) ?_
    rintro e w' ⟨rfl, h1, h2, h3⟩
    exact ⟨rfl, ⟨h1, h2⟩, h3⟩
   ·refine ⟨4, p, f, Or.inr (Or.inr rfl), hg, hf, Desk.refl p, fun _ => rfl, fun h => absurd rfl h, fun _ => Or.inr rfl, fun r d m a mr md ha ww hh => ?_⟩
    refine Calls.mono (mDo_long v r d m (p.w a) i j l X q f ww hh.1 hh.2 ha mr md hg.ts qo hij hj hne hv4 HD) ?_
    rintro e w' ⟨rfl, h1, h2, h3⟩
    exact ⟨rfl, ⟨h1, h2⟩, h3⟩
