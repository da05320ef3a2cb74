/- Joined of the texts LawE, ModesO, ModesP, ModesQ, ModesR. -/
import Derived.Test.YtlendfhehhacpaaGreatP47
import Derived.Test.YtlendfhehhacpaaGreatP10
import Derived.Maps.Keyed
import Derived.Test.YtlendfhehhacpaaGreatP46
set_option linter.unusedVariables false
set_option linter.unusedSimpArgs false
set_option maxRecDepth 100000
set_option maxHeartbeats 8000000
namespace Go.Proofs.YtlendfhehhacpaaGreat
open Go.RowKit
section
variable {m : Nat} {u : UInt8} {e : Nib.Ed} {p : Pg}
theorem pg_same (p : Pg) {a b : Int} (h1 : a = p.fnd) (h2 : b = p.findC) : p = { p with fnd := a, findC := b } := by subst h1 h2; rfl
theorem step_plain (HA : AnyOk) (h : Good m e p) (hu : ¬ (u.toNat : Int) = 27) (h1 : Nib.key1 u.toNat = true) (hp : p.part = 0) (hd : Nib.isD p.n u.toNat = false) (hk : Nib.isPlain u.toNat = true) : ∃ e2 p2 O, Step m u e p e2 p2 O := by
  have hb : Nib.Beg e.keys p.n 0 := hp ▸ h.bg
  have hr := Nib.rd1_way (e.mode != 0) hb hd (by rw [hk]; rfl) h1
  have hk' := hk
  simp only [Nib.isPlain, Bool.or_eq_true, beq_iff_eq] at hk'
  have hm : Nib.isMk u.toNat = false := by simp only [Nib.isMk, Bool.or_eq_false_iff, beq_eq_false_iff_ne]; omega
  have hnf : Nib.isFind u.toNat = false := by simp only [Nib.isFind, Bool.or_eq_false_iff, beq_eq_false_iff_ne]; omega
  have hc := key1_cmd h1 hm
  have hh := head_n p.n h.bg.le
  have hwe : Nib.wayEd { e with keys := ⟨#[]⟩ } (Nib.cW (Nib.cHead (-1) p.n) u.toNat) = { e with keys := ⟨#[]⟩ } := by
    unfold Nib.wayEd
    rw [if_neg (fun hq => by have := hq.1; rw [show (Nib.cW (Nib.cHead (-1) p.n) (u.toNat : Int)).way = (u.toNat : Int) from rfl, hnf] at this; exact Bool.noConfusion this)]
  have hwo : Nib.wayOf { e with keys := ⟨#[]⟩ } (Nib.cW (Nib.cHead (-1) p.n) u.toNat) false = Nib.goWay e.t e.p u.toNat 0 (max p.n 1) (decide (0 < p.n)) false false := by
    unfold Nib.wayOf
    rw [show (Nib.cW (Nib.cHead (-1) p.n) (u.toNat : Int)).way = (u.toNat : Int) from rfl, if_neg (by rw [hnf]; decide), if_neg (by omega)]
    show Nib.goWay e.t e.p u.toNat 0 (Nib.cHead (-1) p.n).n.toNat (Nib.cHead (-1) p.n).given false false = _
    rw [hh.1, hh.2.2.2]
  have hW : WayR u.toNat p (arrEd p (Nib.goWay e.t e.p u.toNat 0 (max p.n 1) (decide (0 < p.n)) false false)) (if (Nib.goWay e.t e.p u.toNat 0 (max p.n 1) (decide (0 < p.n)) false false).2.2 = true then 4 else 1) := by
    intro r d
    refine GivesR.of_d (fun ww hh => mWay_go r d p u.toNat _ ww hh h.bg.le (by rw [h.b0]; omega) (by rw [h.t]; exact h.ts) h.v0 ?_ hnf (by omega) (by omega) (by omega) ?_)
    · rw [h.t]
      exact fun hz => Nib.goWay_in _ _ _ _ h.ps (by omega) hz
    · intro w2
      rw [cnt_n h, h.t, h.pl]
      exact sGo_way e.t e.p p.n u.toNat 0 false w2 h.ts h.ps h.bg.le h.st (by rw [plain_way, hk]; rfl) (HA e.t e.p h.ts h.ps)
  refine step_way (pf := p) h hu hr rfl rfl rfl rfl hh.2.1 hh.2.2.1 (Or.inl ?_) (show ¬ (0 : Int) = 27 by decide) ?_ ?_ ?_
  · show Nib.isWay u.toNat = true
    rcases hk' with (((((((((((((((h | h) | h) | h) | h) | h) | h) | h) | h) | h) | h) | h) | h) | h) | h) | h) | h <;> rw [h] <;> decide
  · rw [hwe]; exact pg_same p h.fd.symm h.fc.symm
  · rw [hwo]; exact fun _ => takeN_way hW hp h.v0 hd hc.1
  · rw [hwo]; exact fun _ => takeM_way hW hp h.v0 hd hc.2
theorem step_again (h : Good m e p) (hu : ¬ (u.toNat : Int) = 27) (h1 : Nib.key1 u.toNat = true) (hp : p.part = 0) (hk : (u.toNat : Int) = 59) : ∃ e2 p2 O, Step m u e p e2 p2 O := by
  have hb : Nib.Beg e.keys p.n 0 := hp ▸ h.bg
  have hd : Nib.isD p.n u.toNat = false := Nib.notD_of (by omega)
  have hr := Nib.rd1_way (e.mode != 0) hb hd (by rw [hk]; decide) h1
  rw [hk] at hr
  have hm : Nib.isMk u.toNat = false := by rw [hk]; decide
  have hc := key1_cmd h1 hm
  have hh := head_n p.n h.bg.le
  have hwe : Nib.wayEd { e with keys := ⟨#[]⟩ } (Nib.cW (Nib.cHead (-1) p.n) 59) = { e with keys := ⟨#[]⟩ } := by
    unfold Nib.wayEd
    rw [if_neg (fun hq => absurd hq.1 (show ¬ Nib.isFind 59 = true by decide))]
  have hwo : Nib.wayOf { e with keys := ⟨#[]⟩ } (Nib.cW (Nib.cHead (-1) p.n) 59) false = if e.find = 0 then (0, 0, true) else Nib.goWay e.t e.p e.find e.findC (max p.n 1) (decide (0 < p.n)) false true := by
    unfold Nib.wayOf
    rw [if_neg (show ¬ Nib.isFind (Nib.cW (Nib.cHead (-1) p.n) 59).way = true from (show ¬ Nib.isFind 59 = true by decide)), if_pos (show (Nib.cW (Nib.cHead (-1) p.n) 59).way = 59 ∨ (Nib.cW (Nib.cHead (-1) p.n) 59).way = 44 from Or.inl rfl)]
    show (if e.find = 0 then (0, 0, true) else Nib.goWay e.t e.p (if (59 : Int) = 44 then Nib.flp e.find else e.find) e.findC (Nib.cHead (-1) p.n).n.toNat (Nib.cHead (-1) p.n).given false true) = _
    rw [hh.1, hh.2.2.2, if_neg (show ¬ (59 : Int) = 44 by decide)]
  have hW : WayR 59 p (arrEd p (if e.find = 0 then (0, 0, true) else Nib.goWay e.t e.p e.find e.findC (max p.n 1) (decide (0 < p.n)) false true)) (if (if e.find = 0 then ((0 : Int), (0 : Int), true) else Nib.goWay e.t e.p e.find e.findC (max p.n 1) (decide (0 < p.n)) false true).2.2 = true then 4 else 1) := by
    intro r d
    refine GivesR.of_d (fun ww hh => mWay_again r d p _ ww hh h.bg.le (by rw [h.b0]; omega) (by rw [h.t]; exact h.ts) h.v0 ?_ ?_)
    · rw [h.t]
      intro hz
      by_cases hf : e.find = 0
      · rw [if_pos hf] at hz; exact Bool.noConfusion hz
      · rw [if_neg hf] at hz ⊢; exact Nib.goWay_in _ _ _ _ h.ps (by omega) hz
    · intro w2
      rw [cnt_n h, h.t, h.pl, h.fd, h.fc]
      by_cases hf : e.find = 0
      · rw [if_pos hf, hf]
        exact sFind_again0 e.t e.p p.n e.findC w2
      · rw [if_neg hf]
        exact sFind_again e.t e.p p.n e.find e.findC _ w2 h.ts h.ps h.bg.le (by rcases h.fo with hq | hq; exact absurd hq hf; exact hq)
  refine step_way (pf := p) h hu hr rfl rfl rfl rfl hh.2.1 hh.2.2.1 (Or.inr (Or.inl rfl)) (show ¬ (0 : Int) = 27 by decide) ?_ ?_ ?_
  · rw [hwe]; exact pg_same p h.fd.symm h.fc.symm
  · rw [hwo, hk]; rw [hk] at hc hd; exact fun _ => takeN_way hW hp h.v0 hd hc.1
  · rw [hwo, hk]; rw [hk] at hc hd; exact fun _ => takeM_way hW hp h.v0 hd hc.2
theorem step_turned (h : Good m e p) (hu : ¬ (u.toNat : Int) = 27) (h1 : Nib.key1 u.toNat = true) (hp : p.part = 0) (hk : (u.toNat : Int) = 44) : ∃ e2 p2 O, Step m u e p e2 p2 O := by
  have hb : Nib.Beg e.keys p.n 0 := hp ▸ h.bg
  have hd : Nib.isD p.n u.toNat = false := Nib.notD_of (by omega)
  have hr := Nib.rd1_way (e.mode != 0) hb hd (by rw [hk]; decide) h1
  rw [hk] at hr
  have hm : Nib.isMk u.toNat = false := by rw [hk]; decide
  have hc := key1_cmd h1 hm
  have hh := head_n p.n h.bg.le
  have hwe : Nib.wayEd { e with keys := ⟨#[]⟩ } (Nib.cW (Nib.cHead (-1) p.n) 44) = { e with keys := ⟨#[]⟩ } := by
    unfold Nib.wayEd
    rw [if_neg (fun hq => absurd hq.1 (show ¬ Nib.isFind 44 = true by decide))]
  have hwo : Nib.wayOf { e with keys := ⟨#[]⟩ } (Nib.cW (Nib.cHead (-1) p.n) 44) false = if e.find = 0 then (0, 0, true) else Nib.goWay e.t e.p (Nib.flp e.find) e.findC (max p.n 1) (decide (0 < p.n)) false true := by
    unfold Nib.wayOf
    rw [if_neg (show ¬ Nib.isFind (Nib.cW (Nib.cHead (-1) p.n) 44).way = true from (show ¬ Nib.isFind 44 = true by decide)), if_pos (show (Nib.cW (Nib.cHead (-1) p.n) 44).way = 59 ∨ (Nib.cW (Nib.cHead (-1) p.n) 44).way = 44 from Or.inr rfl)]
    show (if e.find = 0 then (0, 0, true) else Nib.goWay e.t e.p (if (44 : Int) = 44 then Nib.flp e.find else e.find) e.findC (Nib.cHead (-1) p.n).n.toNat (Nib.cHead (-1) p.n).given false true) = _
    rw [hh.1, hh.2.2.2, if_pos (show (44 : Int) = 44 by decide)]
  have hW : WayR 44 p (arrEd p (if e.find = 0 then (0, 0, true) else Nib.goWay e.t e.p (Nib.flp e.find) e.findC (max p.n 1) (decide (0 < p.n)) false true)) (if (if e.find = 0 then ((0 : Int), (0 : Int), true) else Nib.goWay e.t e.p (Nib.flp e.find) e.findC (max p.n 1) (decide (0 < p.n)) false true).2.2 = true then 4 else 1) := by
    intro r d
    refine GivesR.of_d (fun ww hh => mWay_turned r d p (Nib.flp e.find) _ ww hh h.bg.le (by rw [h.b0]; omega) (by rw [h.t]; exact h.ts) h.v0 ?_ ?_ ?_)
    · rw [h.t]
      intro hz
      by_cases hf : e.find = 0
      · rw [if_pos hf] at hz; exact Bool.noConfusion hz
      · rw [if_neg hf] at hz ⊢; exact Nib.goWay_in _ _ _ _ h.ps (by omega) hz
    · intro w2
      rw [h.fd, h.fc]
      exact sTurned_any e.find e.findC w2 h.fo
    · intro w2
      rw [cnt_n h, h.t, h.pl, h.fc]
      by_cases hf : e.find = 0
      · rw [if_pos hf, hf]
        exact sFind_again0 e.t e.p p.n e.findC w2
      · rw [if_neg hf]
        refine sFind_again e.t e.p p.n (Nib.flp e.find) e.findC _ w2 h.ts h.ps h.bg.le ?_
        rcases h.fo with hq | hq
        · exact absurd hq hf
        · simp only [Nib.isFind, Bool.or_eq_true, beq_iff_eq] at hq
          rcases hq with ((hq | hq) | hq) | hq <;> rw [hq] <;> decide
  refine step_way (pf := p) h hu hr rfl rfl rfl rfl hh.2.1 hh.2.2.1 (Or.inr (Or.inr rfl)) (show ¬ (0 : Int) = 27 by decide) ?_ ?_ ?_
  · rw [hwe]; exact pg_same p h.fd.symm h.fc.symm
  · rw [hwo, hk]; rw [hk] at hc hd; exact fun _ => takeN_way hW hp h.v0 hd hc.1
  · rw [hwo, hk]; rw [hk] at hc hd; exact fun _ => takeM_way hW hp h.v0 hd hc.2
theorem step_none (h : Good m e p) (hu : ¬ (u.toNat : Int) = 27) (h1 : Nib.key1 u.toNat = true) (hp : p.part = 0) (hd : Nib.isD p.n u.toNat = false) (k1 : Nib.isFind u.toNat = false) (k2 : ¬ (u.toNat : Int) = 103) (k3 : Nib.isMk u.toNat = false) (k4 : Nib.isPlain u.toNat = false) (k5 : ¬ (u.toNat : Int) = 59) (k6 : ¬ (u.toNat : Int) = 44) : ∃ e2 p2 O, Step m u e p e2 p2 O := by
  have hb : Nib.Beg e.keys p.n 0 := hp ▸ h.bg
  have hr := Nib.rd1_bad (e.mode != 0) hb hd k1 k2 k3 (by rw [k4]; simp [k5, k6]) h1
  have hc := key1_cmd h1 k3
  have hW : WayR u.toNat p p 4 := by
    intro r d
    refine GivesR.of_d (fun ww hh => ?_)
    have := mWay_go r d p u.toNat ((0 : Int), (0 : Int), true) ww hh h.bg.le (by rw [h.b0]; omega) (by rw [h.t]; exact h.ts) h.v0 (fun hz => Bool.noConfusion hz) k1 k2 k5 k6 (fun w2 => sGo_none p.t p.pl (cnt p) u.toNat false false w2 (by rw [plain_way, k4]; simp [k2]))
    exact this
  exact ⟨_, _, _, step_bad h hu hr (fun _ => takeN_way hW hp h.v0 hd hc.1) (fun _ => takeM_way hW hp h.v0 hd hc.2)⟩
theorem step_find (h : Good m e p) (hu : ¬ (u.toNat : Int) = 27) (hp : Nib.isFind p.part = true) : ∃ e2 p2 O, Step m u e p e2 p2 O := by
  have hr := Nib.rd1_find (u := u) (e.mode != 0) h.bg hp
  have hh := head_n p.n h.bg.le
  have hwe : Nib.wayEd { e with keys := ⟨#[]⟩ } (Nib.cWC (Nib.cHead (-1) p.n) p.part u.toNat) = { e with keys := ⟨#[]⟩, find := p.part, findC := u.toNat } := by
    unfold Nib.wayEd
    rw [if_pos ⟨hp, hu⟩]
    rfl
  have hwo : Nib.wayOf { e with keys := ⟨#[]⟩ } (Nib.cWC (Nib.cHead (-1) p.n) p.part u.toNat) false = Nib.goWay e.t e.p p.part u.toNat (max p.n 1) (decide (0 < p.n)) false false := by
    unfold Nib.wayOf
    rw [if_pos (show Nib.isFind (Nib.cWC (Nib.cHead (-1) p.n) p.part u.toNat).way = true from hp), if_neg (show ¬ (Nib.cWC (Nib.cHead (-1) p.n) p.part u.toNat).c = 27 from hu)]
    show Nib.goWay e.t e.p p.part u.toNat (Nib.cHead (-1) p.n).n.toNat (Nib.cHead (-1) p.n).given false false = _
    rw [hh.1, hh.2.2.2]
  have hW : ComplR u.toNat p (arrEd { p with fnd := p.part, findC := u.toNat } (Nib.goWay e.t e.p p.part u.toNat (max p.n 1) (decide (0 < p.n)) false false)) (if (Nib.goWay e.t e.p p.part u.toNat (max p.n 1) (decide (0 < p.n)) false false).2.2 = true then 4 else 1) := by
    intro r d
    refine GivesR.of_d (fun ww hh => mComplete_find r d p u.toNat _ ww hh h.bg.le (by rw [h.b0]; omega) (by rw [h.t]; exact h.ts) h.v0 hp ?_ ?_)
    · rw [h.t]
      exact fun hz => Nib.goWay_in _ _ _ _ h.ps (by omega) hz
    · intro w2
      rw [cnt_n h, h.t, h.pl]
      exact sFind_go e.t e.p p.n p.part u.toNat _ w2 h.ts h.ps h.bg.le hp
  have hp0 : ¬ p.part = 0 := by intro hq; rw [hq] at hp; exact absurd hp (by decide)
  refine step_way (pf := { p with fnd := p.part, findC := u.toNat }) h hu hr rfl rfl rfl rfl hh.2.1 hh.2.2.1 (Or.inl ?_) hu ?_ ?_ ?_
  · show Nib.isWay p.part = true
    simp only [Nib.isFind, Bool.or_eq_true, beq_iff_eq] at hp
    rcases hp with ((h | h) | h) | h <;> rw [h] <;> decide
  · rw [hwe]
  · rw [hwo]; exact fun _ => takeN_compl hW (Or.inl hp)
  · rw [hwo]; exact fun _ => takeM_compl hW hp0
theorem step_gg (HA : AnyOk) (h : Good m e p) (hu : (u.toNat : Int) = 103) (hp : p.part = 103) : ∃ e2 p2 O, Step m u e p e2 p2 O := by
  have hb : Nib.Beg e.keys p.n 103 := hp ▸ h.bg
  have hr := Nib.rd1_gg (e.mode != 0) hb hu
  have hh := head_n p.n h.bg.le
  have hwe : Nib.wayEd { e with keys := ⟨#[]⟩ } (Nib.cW (Nib.cHead (-1) p.n) 103) = { e with keys := ⟨#[]⟩ } := by
    unfold Nib.wayEd
    rw [if_neg (fun hq => absurd hq.1 (show ¬ Nib.isFind 103 = true by decide))]
  have hwo : Nib.wayOf { e with keys := ⟨#[]⟩ } (Nib.cW (Nib.cHead (-1) p.n) 103) false = Nib.goWay e.t e.p 103 0 (max p.n 1) (decide (0 < p.n)) false false := by
    unfold Nib.wayOf
    rw [if_neg (show ¬ Nib.isFind (Nib.cW (Nib.cHead (-1) p.n) 103).way = true from (show ¬ Nib.isFind 103 = true by decide)), if_neg (show ¬ ((Nib.cW (Nib.cHead (-1) p.n) 103).way = 59 ∨ (Nib.cW (Nib.cHead (-1) p.n) 103).way = 44) from (show ¬ ((103 : Int) = 59 ∨ (103 : Int) = 44) by decide))]
    show Nib.goWay e.t e.p 103 0 (Nib.cHead (-1) p.n).n.toNat (Nib.cHead (-1) p.n).given false false = _
    rw [hh.1, hh.2.2.2]
  have hW : ComplR 103 p (arrEd p (Nib.goWay e.t e.p 103 0 (max p.n 1) (decide (0 < p.n)) false false)) (if (Nib.goWay e.t e.p 103 0 (max p.n 1) (decide (0 < p.n)) false false).2.2 = true then 4 else 1) := by
    intro r d
    refine GivesR.of_d (fun ww hh => mComplete_gg r d p _ ww hh h.bg.le (by rw [h.b0]; omega) (by rw [h.t]; exact h.ts) h.v0 hp ?_ ?_)
    · rw [h.t]
      exact fun hz => Nib.goWay_in _ _ _ _ h.ps (by omega) hz
    · intro w2
      rw [cnt_n h, h.t, h.pl]
      exact sGo_way e.t e.p p.n 103 0 false w2 h.ts h.ps h.bg.le h.st (by decide) (HA e.t e.p h.ts h.ps)
  refine step_way (pf := p) h (by omega) hr rfl rfl rfl rfl hh.2.1 hh.2.2.1 (Or.inl (show Nib.isWay 103 = true by decide)) (show ¬ (0 : Int) = 27 by decide) ?_ ?_ ?_
  · rw [hwe]; exact pg_same p h.fd.symm h.fc.symm
  · rw [hwo, hu]; exact fun _ => takeN_compl hW (Or.inr ⟨hp, by decide, by decide⟩)
  · rw [hwo, hu]; exact fun _ => takeM_compl hW (by omega)
theorem step_g (h : Good m e p) (hu : ¬ (u.toNat : Int) = 27) (h1 : Nib.key1 u.toNat = true) (hk : ¬ (u.toNat : Int) = 103) (hp : p.part = 103) : ∃ e2 p2 O, Step m u e p e2 p2 O := by
  have hb : Nib.Beg e.keys p.n 103 := hp ▸ h.bg
  have hr := Nib.rd1_g (e.mode != 0) hb hk h1
  have hrow := Nib.row1_of h1
  have hW : ComplR u.toNat p p 4 := fun r d => GivesR.of_below (fun ww hh => mComplete_g r d p u.toNat ww hh hp hk)
  exact ⟨_, _, _, step_bad h hu hr (fun _ => takeN_compl hW (Or.inr ⟨hp, hrow.n117, hrow.n85⟩)) (fun _ => takeM_compl hW (by omega))⟩
theorem step_any (HA : AnyOk) (h : Good m e p) (h1 : Nib.key1 u.toNat = true) : ∃ e2 p2 O, Step m u e p e2 p2 O := by
  by_cases hu : (u.toNat : Int) = 27
  · exact ⟨_, _, _, step_esc h hu⟩
  · rcases h.bg.parts with hp | hp | hp
    · cases hd : Nib.isD p.n u.toNat with
      | true => exact step_digit h hu hp hd
      | false =>
        cases k1 : Nib.isFind u.toNat with
        | true => exact step_part h hu h1 hp hd (Or.inl k1)
        | false =>
          by_cases k2 : (u.toNat : Int) = 103
          · exact step_part h hu h1 hp hd (Or.inr k2)
          · cases k3 : Nib.isMk u.toNat with
            | true => exact step_mark h hu h1 hp hd k3
            | false =>
              cases k4 : Nib.isPlain u.toNat with
              | true => exact step_plain HA h hu h1 hp hd k4
              | false =>
                by_cases k5 : (u.toNat : Int) = 59
                · exact step_again h hu h1 hp k5
                · by_cases k6 : (u.toNat : Int) = 44
                  · exact step_turned h hu h1 hp k6
                  · exact step_none h hu h1 hp hd k1 k2 k3 k4 k5 k6
    · exact step_find h hu hp
    · by_cases k : (u.toNat : Int) = 103
      · exact step_gg HA h k hp
      · exact step_g h hu h1 k hp
end
theorem bState (b r d : Nat) (tv : Value) (dg : ByteArray) (p : Pg) (w : World) (hb : BdAt w b r d tv dg) (h : RdAt w r d p) :
    Calls Tryz.prog 31 #[.pointer (some ⟨b, 0, none⟩)] w fun e w' => e = .returned (.agg #[.string p.t, .int .i64 (p.pl : Nat), .int .i64 (p.anchor : Nat), .int .i64 p.mode, .bool (waits p)]) ∧ Below w.heap.size w w' := by
  have HW : Hid (∀ ww, RdAt ww r d p → Calls Tryz.prog 39 #[.pointer (some ⟨r, 1, none⟩)] ww fun e w' => e = .returned (.bool (waits p)) ∧ Below ww.heap.size ww w') := fun ww hh => mWaiting r d p ww hh
  generalize waits p = N at *
  have H := h
  obtain ⟨c0, c1, c2, c3, c4, c5, c6, c7, c8, c9, fz, lt⟩ := h.dk
  have b0 := hb.c0
  have r0 := h.bg.c0
  have bl := hb.lt
  have rl := h.bg.lt
  clear c4 c5 c6 c7 c8 c9 h hb
  have l1 : d < w.heap.size + 1 := by omega
  have l2 : r < w.heap.size + 1 := by omega
  have l3 : b < w.heap.size + 1 := by omega
  have n1 : ¬ w.heap.size = d := by omega
  have n2 : ¬ d = w.heap.size := by omega
  have n3 : ¬ w.heap.size = r := by omega
  have n4 : ¬ r = w.heap.size := by omega
  have n5 : ¬ w.heap.size = b := by omega
  have n6 : ¬ b = w.heap.size := by omega
  go_enter Tryz.func31, Tryz.ntmps31
  go_wp2_with fail
  go_region_held3 (fun ww => ww.cell? ⟨b, 0, none⟩ = some (.pointer (some ⟨r, 0, none⟩)) ∧ ww.cell? ⟨r, 0, none⟩ = some (.pointer (some ⟨d, 0, none⟩)) ∧ ww.cell? ⟨d, 0, none⟩ = some (.string p.t) ∧ ww.cell? ⟨d, 1, none⟩ = some (.int .i64 (p.pl : Nat)) ∧ ww.cell? ⟨d, 2, none⟩ = some (.int .i64 (p.anchor : Nat)) ∧ ww.cell? ⟨d, 3, none⟩ = some (.int .i64 p.mode)) ((refine ⟨?_, ?_, ?_, ?_, ?_, ?_⟩ <;> (first | (go_simp; done) | ((repeat (first | with_reducible assumption | (with_reducible refine memLater ((Below.refl _ _).alloc (Nat.le_refl _) _) ?_) | (with_reducible refine memLater ((Below.refl _ _).drew) ?_) | (with_reducible refine memLater h1 ?_) | (with_reducible refine (memSet (by omega)).trans ?_) | (go_simp; done))); done)))) ((go_at_call 39; refine Calls.mono (HW.out _ (by (repeat (with_reducible first | exact H | refine RdAt.alloc ?_ _ | refine RdAt.drewN ?_ _ | refine RdAt.drew ?_ | refine r_o ?_ _)))) ?_; rintro r1 w1 ⟨rfl, h1⟩; have hz1 := h1.size; (try simp at hz1); (try have hl1_0 : b < w1.heap.size := (by omega)); (try have hk1_0 : b < w1.heap.size + 1 := (by omega)); (try have hl1_1 : d < w1.heap.size := (by omega)); (try have hk1_1 : d < w1.heap.size + 1 := (by omega)); (try have hl1_2 : r < w1.heap.size := (by omega)); (try have hk1_2 : r < w1.heap.size + 1 := (by omega)); obtain ⟨hc1, hf1⟩ := bcell h1; have hn1_0 := (hc1 (w.heap.size) 0 (by first | omega | (simp <;> omega))).trans (show _ = some (.string ⟨#[]⟩) by simp); have hn1_1 := (hc1 (w.heap.size) 1 (by first | omega | (simp <;> omega))).trans (show _ = some (.int .i64 0) by simp); have hn1_2 := (hc1 (w.heap.size) 2 (by first | omega | (simp <;> omega))).trans (show _ = some (.int .i64 0) by simp); have hn1_3 := (hc1 (w.heap.size) 3 (by first | omega | (simp <;> omega))).trans (show _ = some (.int .i64 0) by simp); have hn1_4 := (hc1 (w.heap.size) 4 (by first | omega | (simp <;> omega))).trans (show _ = some (.bool false) by simp); have hq1 := fun o => (hf1 (w.heap.size) o (by first | omega | (simp <;> omega))).trans (show _ = false by simp); have hg1 : w.heap.size < w1.heap.size := (by omega); clear hc1 hf1))
  go_wp2
  refine bodyPost_ret (v := .agg #[.string p.t, .int .i64 (p.pl : Nat), .int .i64 (p.anchor : Nat), .int .i64 p.mode, .bool N]) (by simp [results, Tryz.results31, go_sem, hn1_0, hn1_1, hn1_2, hn1_3, hn1_4]) rfl ⟨rfl, ?_⟩
  repeat (with_reducible first | exact Below.refl _ _ | refine b_s ?_ _ | refine b_a ?_ _ | refine Below.drew ?_ | refine below_drewN ?_ _ | refine b_t ?_ h1)
theorem zero_register (w : World) : (zeroValue 99).run Tryz.prog w = .ok (.agg #[.string ⟨#[]⟩, .bool false]) w := by kernel_rfl
theorem check_u8 (e : Bool) (n : Nat) (c : Int) (w : World) : (Instr.checkKey e (n + 1) 5 (.int .u8 c)).run Tryz.prog w = .ok () w := by
  rw [Instr.checkKey]
  simp [run_underlying Tryz.underlying5]
theorem look_none (m k : Nat) (c : Int) (w : World) (hh : w.heap[m]? = some (.map #[] k)) : (Instr.lookup 90 (.map (some m)) (.int .u8 c) false).run Tryz.prog w = .ok (.agg #[.string ⟨#[]⟩, .bool false]) w := by
  have hck : ∀ e w, (Instr.checkKey e 10000 5 (.int .u8 c)).run Tryz.prog w = .ok () w := fun e w => check_u8 e 9999 c w
  have hfk : ∀ w, (Instr.findKey 5 (.int .u8 c) []).run Tryz.prog w = .ok none w := fun w => by simp [Instr.findKey, run_underlying Tryz.underlying5, Instr.findNow]
  unfold Instr.lookup
  simp [run_underlying Tryz.underlying90, MapKept.run_getObj_map hh, hck, hfk, zero_register, Result.andThen]
theorem bRegister_none (b r d m : Nat) (tv : Value) (dg : ByteArray) (p : Pg) (c : Int) (k : Nat) (w : World) (hb : BdAt w b r d tv dg) (h : RdAt w r d p) (hm : p.regs = .map (some m)) (hh : w.heap[m]? = some (.map #[] k)) :
    Calls Tryz.prog 32 #[.pointer (some ⟨b, 0, none⟩), .int .u8 c] w fun e w' => e = .returned (.tuple #[.string ⟨#[]⟩, .bool false]) ∧ Below w.heap.size w w' := by
  have c4 := h.dk.c4
  rw [hm] at c4
  have b0 := hb.c0
  have r0 := h.bg.c0
  have bl := hb.lt
  have rl := h.bg.lt
  have dl := h.dk.lt
  have l1 : d < w.heap.size + 1 := by omega
  have l2 : r < w.heap.size + 1 := by omega
  have l3 : b < w.heap.size + 1 := by omega
  clear hb h
  have hlk := look_none m k c w hh
  go_enter Tryz.func32, Tryz.ntmps32
  go_wp2_with fail
  go_region_held3 (fun ww => ww.cell? ⟨w.heap.size, 0, none⟩ = some (.string ⟨#[]⟩) ∧ ww.cell? ⟨w.heap.size, 1, none⟩ = some (.bool false)) ((refine ⟨?_, ?_⟩ <;> go_simp)) (fail)
  go_wp2
  go_ret2
  refine ⟨rfl, ?_⟩
  repeat (with_reducible first | exact Below.refl _ _ | refine b_s ?_ _ | refine b_a ?_ _ | refine Below.drew ?_ | refine below_drewN ?_ _)
theorem hOf (t : ByteArray) (w : World) :
    Calls Tryz.prog 40 #[.string t] w fun e w' => e = .returned (.agg #[.string t, .slice none 0 0, .slice none 0 0]) ∧ Below w.heap.size w w' := by
  go_enter Tryz.func40, Tryz.ntmps40
  go_wp2
  refine bodyPost_ret (v := .agg #[.string t, .slice none 0 0, .slice none 0 0]) (by simp [results, Tryz.results40, go_sem]) rfl ⟨rfl, ?_⟩
  repeat (with_reducible first | exact Below.refl _ _ | refine b_s ?_ _ | refine b_a ?_ _ | refine Below.drew ?_ | refine below_drewN ?_ _)
def newPg (t : ByteArray) (m : Nat) : Pg := ⟨t, 0, 0, 0, .map (some m), t, .slice none 0 0, .slice none 0 0, 0, 0, 0, 0, 0, 0, 0⟩
theorem bNew (t : ByteArray) (w : World) :
    Calls Tryz.prog 33 #[.string t] w fun e w' => ∃ b r d m : Nat, e = .returned (.pointer (some ⟨b, 0, none⟩)) ∧ NbAt w' b r d (newPg t m) (.slice none 0 0) 0 ⟨#[]⟩ ∧ w'.heap[m]? = some (.map #[] 0) ∧
      w.heap.size ≤ m ∧ w.heap.size ≤ b ∧ w.heap.size ≤ r ∧ w.heap.size ≤ d ∧ m ≠ b ∧ m ≠ r ∧ m ≠ d ∧ Below w.heap.size w w' := by
  have HO : Hid (∀ ww, Calls Tryz.prog 40 #[.string t] ww fun e w' => e = .returned (.agg #[.string t, .slice none 0 0, .slice none 0 0]) ∧ Below ww.heap.size ww w') := fun ww => hOf t ww
  have hmm := @run_makeMap Tryz.prog
  go_enter Tryz.func33, Tryz.ntmps33
  go_wp2_with fail
  refine Calls.mono (HO.out _) ?_
  rintro e w1 ⟨rfl, h1⟩
  have hz1 := h1.size
  simp at hz1
  have hmp : w1.heap[w.heap.size]? = some (.map #[] 0) := by
    rw [h1.block w.heap.size (by simp)]
    exact heap_alloc_new w _
  go_wp2_with fail
  go_ret
  refine ⟨w1.heap.size + 1 + 1, w1.heap.size + 1, w1.heap.size, w.heap.size, rfl, ⟨?_, ⟨?_, ?_, by omega⟩, ⟨_, World.ownsRow_nil _ _ _ _⟩, by omega, by omega, by simp [Value.ownBlock], by simp [Value.ownBlock], by simp [Value.ownBlock]⟩, ?_, by omega, by omega, by omega, by omega, by omega, by omega, by omega, ?_⟩
  · constructor <;> first | (intro o; simp; done) | (simp [go_sem]; done) | (simp [go_sem]; rfl) | (simp; omega) | rfl
  · constructor <;> first | (intro o; simp [newPg]; done) | (simp [go_sem, newPg]; done) | (simp [go_sem, newPg]; rfl) | (simp; omega) | rfl
  · constructor <;> first | (intro o; simp [newPg]; done) | (simp [go_sem, newPg]; done) | (simp [go_sem, newPg]; rfl) | (simp; omega) | rfl
  · rw [Below.heap_alloc _ _ _ (by simp; omega), Below.heap_alloc _ _ _ (by simp; omega), Below.heap_alloc _ _ _ (by omega)]
    exact hmp
  · repeat (with_reducible first | exact Below.refl _ _ | refine b_s ?_ _ | refine b_a ?_ _ | refine Below.drew ?_ | refine below_drewN ?_ _ | refine b_t ?_ h1)
theorem nNew_long (t : ByteArray) (w : World) (h : 1000 < t.size) :
    Calls Tryz.prog 24 #[.string t] w fun r w' => r = .returned (.tuple #[.pointer none, .int .i64 1]) ∧ w' = w := by
  have h' : (1000 : Int) < (t.size : Int) := by omega
  go_enter Tryz.func24, Tryz.ntmps24
  go_wp2
  go_ret2
  exact ⟨rfl, rfl⟩
theorem nNew_ok (t : ByteArray) (w : World) (h : t.size ≤ 1000) :
    Calls Tryz.prog 24 #[.string t] w fun e w' => ∃ q b r d m : Nat, e = .returned (.tuple #[.pointer (some ⟨q, 0, none⟩), .int .i64 0]) ∧ w'.cell? ⟨q, 0, none⟩ = some (.pointer (some ⟨b, 0, none⟩)) ∧ NbAt w' b r d (newPg t m) (.slice none 0 0) 0 ⟨#[]⟩ ∧ w'.heap[m]? = some (.map #[] 0) ∧
      w.heap.size ≤ q ∧ w.heap.size ≤ m ∧ w.heap.size ≤ b ∧ w.heap.size ≤ r ∧ w.heap.size ≤ d ∧ q ≠ b ∧ q ≠ r ∧ q ≠ d ∧ m ≠ b ∧ m ≠ r ∧ m ≠ d ∧ q < w'.heap.size ∧ Below w.heap.size w w' := by
  have h' : ¬ (1000 : Int) < (t.size : Int) := by omega
  have HN : Hid (∀ ww, Calls Tryz.prog 33 #[.string t] ww fun e w' => ∃ b r d m : Nat, e = .returned (.pointer (some ⟨b, 0, none⟩)) ∧ NbAt w' b r d (newPg t m) (.slice none 0 0) 0 ⟨#[]⟩ ∧ w'.heap[m]? = some (.map #[] 0) ∧
      ww.heap.size ≤ m ∧ ww.heap.size ≤ b ∧ ww.heap.size ≤ r ∧ ww.heap.size ≤ d ∧ m ≠ b ∧ m ≠ r ∧ m ≠ d ∧ Below ww.heap.size ww w') := fun ww => bNew t ww
  go_enter Tryz.func24, Tryz.ntmps24
  go_wp2_with fail
  refine Calls.mono (HN.out _) ?_
  rintro e w1 ⟨b, r, d, m, rfl, hN, hm, m1, m2, m3, m4, m5, m6, m7, h1⟩
  have HB : Hid (NbAt w1 b r d (newPg t m) (.slice none 0 0) 0 ⟨#[]⟩) := hN
  have HM : Hid (w1.heap[m]? = some (.map #[] 0)) := hm
  have bl := hN.bd.lt
  have rl := hN.rd.bg.lt
  have dl := hN.rd.dk.lt
  have ml : m < w1.heap.size := (Array.getElem?_eq_some_iff.1 hm).1
  have hz1 := h1.size
  clear hN hm
  go_wp2
  go_ret2
  refine ⟨w1.heap.size, b, r, d, m, rfl, by simp, ?_, ?_, by omega, m1, m2, m3, m4, by omega, by omega, by omega, m5, m6, m7, by simp, ?_⟩
  · exact ⟨HB.out.bd.alloc _, HB.out.rd.alloc _, ⟨_, World.ownsRow_nil _ _ _ _⟩, HB.out.br, HB.out.bd', HB.out.tb, HB.out.tr, HB.out.td⟩
  · rw [Below.heap_alloc _ _ _ ml]; exact HM.out
  · repeat (with_reducible first | exact Below.refl _ _ | refine b_s ?_ _ | refine b_a ?_ _ | refine Below.drew ?_ | refine below_drewN ?_ _ | refine b_t ?_ h1)
theorem nType (q b : Nat) (s : ByteArray) (w : World) (N : Int) (Q : World → Prop) (hq : w.cell? ⟨q, 0, none⟩ = some (.pointer (some ⟨b, 0, none⟩)))
    (HT : Hid (∀ ww, ww = w → Calls Tryz.prog 30 #[.pointer (some ⟨b, 0, none⟩), .string s] ww fun e w' => e = .returned (.int .i64 N) ∧ Q w')) :
    Calls Tryz.prog 17 #[.pointer (some ⟨q, 0, none⟩), .string s] w fun e w' => e = .returned (.int .i64 N) ∧ Q w' := by
  go_enter Tryz.func17, Tryz.ntmps17
  go_wp2_with fail
  refine Calls.mono (HT.out _ rfl) ?_
  rintro e w1 ⟨rfl, h1⟩
  have HQ : Hid (Q w1) := h1
  clear h1
  go_wp2
  go_ret
  exact ⟨rfl, HQ.out⟩
theorem nState (q b r d : Nat) (tv : Value) (dg : ByteArray) (p : Pg) (w : World) (hq : w.cell? ⟨q, 0, none⟩ = some (.pointer (some ⟨b, 0, none⟩))) (hb : BdAt w b r d tv dg) (h : RdAt w r d p) :
    Calls Tryz.prog 18 #[.pointer (some ⟨q, 0, none⟩)] w fun e w' => e = .returned (.agg #[.string p.t, .int .i64 (p.pl : Nat), .int .i64 (p.anchor : Nat), .int .i64 p.mode, .bool (waits p)]) ∧ Below w.heap.size w w' := by
  have HS : Hid (∀ ww, BdAt ww b r d tv dg → RdAt ww r d p → Calls Tryz.prog 31 #[.pointer (some ⟨b, 0, none⟩)] ww fun e w' => e = .returned (.agg #[.string p.t, .int .i64 (p.pl : Nat), .int .i64 (p.anchor : Nat), .int .i64 p.mode, .bool (waits p)]) ∧ Below ww.heap.size ww w') := fun ww h1 h2 => bState b r d tv dg p ww h1 h2
  generalize waits p = N at *
  have ql : q < w.heap.size := World.block_lt_of_cell? w ⟨q, 0, none⟩ hq
  have l1 : q < w.heap.size + 1 := by omega
  go_enter Tryz.func18, Tryz.ntmps18
  go_wp2_with fail
  refine Calls.mono (HS.out _ (hb.alloc _) (h.alloc _)) ?_
  rintro e w1 ⟨rfl, h1⟩
  obtain ⟨hc1, hf1⟩ := bcell h1
  have hz1 := h1.size
  simp at hz1
  have e0 := fun o => hc1 w.heap.size o (by simp)
  have e1 := fun o => hf1 w.heap.size o (by simp)
  clear hc1 hf1
  go_wp2
  refine bodyPost_ret (v := .agg #[.string p.t, .int .i64 (p.pl : Nat), .int .i64 (p.anchor : Nat), .int .i64 p.mode, .bool N]) (by simp [results, Tryz.results18, go_sem, e0]) rfl ⟨rfl, ?_⟩
  repeat (with_reducible first | exact Below.refl _ _ | refine b_s ?_ _ | refine b_a ?_ _ | refine Below.drew ?_ | refine below_drewN ?_ _ | refine b_t ?_ h1)
theorem nRegister_none (q b r d m : Nat) (tv : Value) (dg : ByteArray) (p : Pg) (c : Int) (k : Nat) (w : World) (hq : w.cell? ⟨q, 0, none⟩ = some (.pointer (some ⟨b, 0, none⟩))) (hb : BdAt w b r d tv dg) (h : RdAt w r d p) (hm : p.regs = .map (some m)) (hh : w.heap[m]? = some (.map #[] k)) :
    Calls Tryz.prog 20 #[.pointer (some ⟨q, 0, none⟩), .int .u8 c] w fun e w' => e = .returned (.tuple #[.string ⟨#[]⟩, .bool false]) ∧ Below w.heap.size w w' := by
  have HS : Hid (∀ ww, ww = w → Calls Tryz.prog 32 #[.pointer (some ⟨b, 0, none⟩), .int .u8 c] ww fun e w' => e = .returned (.tuple #[.string ⟨#[]⟩, .bool false]) ∧ Below ww.heap.size ww w') := fun ww h1 => by subst h1; exact bRegister_none b r d m tv dg p c k ww hb h hm hh
  clear hb h hm hh
  go_enter Tryz.func20, Tryz.ntmps20
  go_wp2_with fail
  refine Calls.mono (HS.out _ rfl) ?_
  rintro e w1 ⟨rfl, h1⟩
  go_wp2
  go_ret2
  exact ⟨rfl, h1⟩
end Go.Proofs.YtlendfhehhacpaaGreat
