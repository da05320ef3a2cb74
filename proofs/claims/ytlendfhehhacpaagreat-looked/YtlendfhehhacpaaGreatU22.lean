/- A part. -/
import Derived.Test.YtlendfhehhacpaaGreatU07
set_option linter.unusedVariables false
set_option linter.unusedSimpArgs false
set_option maxRecDepth 100000
set_option maxHeartbeats 8000000
namespace Go.Proofs.YtlendfhehhacpaaGreat.Nib
theorem bstep_run {s : ByteArray} {r : Nat} {g : Bool} (h0 : 0 < r) (hr : r ≤ s.size) : bstep s g r = if bt s (bto s r) = 10 then bto s r else runB s (bto s r) g := by
 have hb := bto_le s r
 have hend : 0 < bto s r → bgap s (bto s r - 1) = false := fun h => dn_end h
 unfold bstep
 rw [if_neg qo]
 generalize bto s r = B at *
 by_cases h10 : bt s B = 10
 ·rw [if_pos h10]
  have : cls (bt s B) g < 2 := cls_spc (by rw [h10]; rfl)
  rw [if_pos this]
 ·rw [if_neg h10]
  by_cases hc : cls (bt s B) g < 2
  ·rw [if_pos hc]
   by_cases hz : B = 0
   ·subst hz; rfl
   ·exfalso
    have h1 := hend qo
    unfold bgap at h1
    rw [show B - 1 + 1 = B by omega] at h1
    have h2 : spc (bt s B) = true := by
     cases hs : spc (bt s B) with
     | true => rfl
     | false => have := cls_nsp (g := g) hs; omega
    rw [h2, Bool.true_and] at h1
    have h3 : emp s B = true := by cases he : emp s B with
     | true => rfl
     | false => rw [he] at h1; simp at h1
    have hn : nl s B = false := by unfold nl; simp [h10]
    rw [emp_no qo hn] at h3
    exact absurd h3 qi
  ·rw [if_neg hc]; rfl
theorem bstep_lt {s : ByteArray} {r : Nat} {g : Bool} (h : 0 < r) : bstep s g r < r := by
 have hb := bto_le s r
 unfold bstep
 rw [if_neg qo]
 split
 ·omega
 ·have := dn_le (like s (bto s r) g) (bto s r); omega
theorem wayB_eq (s : ByteArray) (p n : Nat) (g : Bool) (hn : 1 ≤ n) : (((itr (bstep s g) n p : Nat) : Int) == (p : Int)) = ((p : Int) == 0) := by
 obtain ⟨k, rfl⟩ : ∃ k, n = k + 1 := ⟨n - 1, by omega⟩
 rw [Bool.eq_iff_iff]
 simp only [beq_iff_eq]
 by_cases hp : p = 0
 ·subst hp
  have : bstep s g 0 = 0 := by unfold bstep; rw [if_pos rfl]
  rw [itr_fix this]; simp
 ·have h1 := bstep_lt (s := s) (g := g) (show 0 < p by omega)
  have h2 := itr_b_le (s := s) (p := bstep s g p) (g := g) k
  rw [← itr_succ'] at h2
  constructor <;> intro h <;> omega
theorem frs_le {s : ByteArray} {p : Nat} (h : p ≤ s.size) : frs s p ≤ s.size := by
  have h1 := lst_le h
  have h2 := beg_le s p
  have h3 := fin_le h
  have h4 := fin_ge s p
  unfold frs
  first
    | (split
       · omega
       · exact up_le qo)
    | (have := up_le (c := fun i => blk (bt s i)) (n := fin s p) (p := beg s p) qo; (repeat' split) <;> omega)
theorem wayH_in {s : ByteArray} {p n : Nat} (hp : p ≤ s.size) : 0 ≤ (wayH s p n).1 ∧ (wayH s p n).1 ≤ s.size := by
 have := beg_le s p
 simp only [wayH]; split <;> omega
theorem wayL_in {s : ByteArray} {p n : Nat} (hp : p ≤ s.size) : 0 ≤ (wayL s p n false).1 ∧ (wayL s p n false).1 ≤ s.size := by
 have := lst_le hp
 simp only [wayL, mostL, Bool.false_eq_true, if_false]; split <;> omega
theorem wayEol_in {s : ByteArray} {p n : Nat} (hn : 1 ≤ n) : 0 ≤ (wayEol s p n).1 ∧ (wayEol s p n).1 ≤ s.size := by
 simp only [wayEol]; split
 ·omega
 ·have := lst_le (att_in (s := s) (m := lin s p + n - 1) qo).1
  omega
theorem lineTo_in {s : ByteArray} {p : Nat} (m : Int) : 0 ≤ (lineTo s p m).1 ∧ (lineTo s p m).1 ≤ s.size := by
 have := beg_le s p
 simp only [lineTo]; split
 ·omega
 ·have := lst_le (att_in (s := s) (m := m.toNat) qo).1
  simp only
  split <;> omega
theorem lineNo_in {s : ByteArray} (m : Int) : 0 ≤ (lineNo s m).1 ∧ (lineNo s m).1 ≤ s.size := by
 have h1 := lns_pos s
 have := frs_le (att_in (s := s) (m := (if (lns s : Int) ≤ m then (lns s : Int) - 1 else m).toNat) (by split <;> omega)).1
 simp only [lineNo]; omega
theorem lineWay_in {s : ByteArray} {p : Nat} (key : Int) (n : Nat) (given : Bool) : 0 ≤ (lineWay s p key n given).1 ∧ (lineWay s p key n given).1 ≤ s.size := by
 unfold lineWay
 split
 ·exact lineTo_in _
 ·split
  ·exact lineTo_in _
  ·exact lineNo_in _
theorem clm_in {s : ByteArray} {p : Nat} (h : p ≤ s.size) : clm s p ≤ s.size := Nat.le_trans (clm_le s p) h
theorem eitr_pos {s : ByteArray} {r : Int} {g : Bool} (h0 : 0 ≤ r) (n : Nat) : 0 ≤ eitr s g n r := by
 induction n with
 | zero => exact h0
 | succ n ih => simp only [eitr]; split <;> omega
theorem endWay_in {s : ByteArray} {p n : Nat} (g : Bool) (hp : p ≤ s.size) : 0 ≤ (endWay s g n p).1 ∧ (endWay s g n p).1 ≤ s.size := by
 unfold endWay; split
 ·simp only; omega
 ·have := eitr_lt (s := s) (r := p) (g := g) qo qo n
  have := eitr_pos (s := s) (r := p) (g := g) qo n
  simp only; omega
theorem byteWay_in {s : ByteArray} {p n f : Nat} (key c : Int) (hp : p ≤ s.size) (hf : 1 ≤ f) : 0 ≤ (byteWay s p key c n f).1 ∧ (byteWay s p key c n f).1 ≤ s.size := by
 have h3 := fin_le hp
 have hU : ∀ d, -1 ≤ d → d ≤ 0 → 0 ≤ (resU d (fndU s c (fin s p) (fin s p - (p + f)) n (p + f))).1 ∧ (resU d (fndU s c (fin s p) (fin s p - (p + f)) n (p + f))).1 ≤ s.size := by
  intro d h1 h2
  cases hh : fndU s c (fin s p) (fin s p - (p + f)) n (p + f) with
  | none => simp only [resU]; omega
  | some q => have := fndU_lt _ _ _ _ hh; simp only [resU]; omega
 have hD : ∀ d, 0 ≤ d → d ≤ 1 → 0 ≤ (resD d (fndD s c (beg s p) n (p + 1 - f))).1 ∧ (resD d (fndD s c (beg s p) n (p + 1 - f))).1 ≤ s.size := by
  intro d h1 h2
  cases hh : fndD s c (beg s p) n (p + 1 - f) with
  | none => simp only [resD]; omega
  | some q => have := fndD_lt _ _ _ hh; simp only [resD]; omega
 unfold byteWay
 split
 ·exact hU 0 qo qo
 ·split
  ·exact hU (-1) qo qo
  ·split
   ·exact hD 0 qo qo
   ·exact hD 1 qo qo
theorem pairWay_in {s : ByteArray} {p : Nat} (hp : p ≤ s.size) (h : (pairWay s p).2.2 = false) : 0 ≤ (pairWay s p).1 ∧ (pairWay s p).1 ≤ s.size := by
 have h3 := fin_le hp
 revert h
 unfold pairWay
 split
 ·intro h
  have := mtch_lt (s := s) (p := up (nobr s) (fin s p) p) qo
  simp only [decide_eq_false_iff_not] at h
  simp only; omega
 ·simp only; intro h; exact Bool.noConfusion h
theorem frm_pos (key : Int) (b : Bool) : 1 ≤ frm key b := by unfold frm; split <;> omega
theorem goWay_in {s : ByteArray} {p n : Nat} (key c : Int) (given b : Bool) (hp : p ≤ s.size) (hn : 1 ≤ n) (h : (goWay s p key c n given false b).2.2 = false) :
  0 ≤ (goWay s p key c n given false b).1 ∧ (goWay s p key c n given false b).1 ≤ s.size := by
 revert h
 unfold goWay
 (repeat' split) <;> intro h
 ·exact wayH_in hp
 ·exact wayL_in hp
 ·have := beg_le s p; simp only; omega
 ·have := frs_le hp; simp only; omega
 ·exact wayEol_in hn
 ·exact lineWay_in _ _ _
 ·have := clm_in (itr_w_le (g := key == 87) hp n); simp only [wordQ, Bool.false_eq_true, if_false]; omega
 ·have := itr_b_le (s := s) (p := p) (g := key == 66) n; simp only [wayB]; omega
 ·exact endWay_in _ hp
 ·exact byteWay_in _ _ hp (frm_pos _ _)
 ·have := clm_in (itr_p_le (down := key == 125) hp n); simp only [parQ, Bool.false_eq_true, if_false]; omega
 ·exact pairWay_in hp h
theorem beg_same {s : ByteArray} {q x : Nat} (h1 : beg s q ≤ x) (h2 : x ≤ q) : beg s x = beg s q := by
 unfold beg
 refine dn_eq h1 ?_ ?_
 ·intro i hi1 hi2
  have := beg_no (s := s) (p := q) (i := i) hi1 qo
  simp [this]
 ·intro h
  have := beg_nl (s := s) (p := q) h
  simp only [beg] at this
  simp [this]
theorem fin_same {s : ByteArray} {q x : Nat} (hq : q ≤ s.size) (h1 : beg s q ≤ x) (h2 : x ≤ q) : fin s x = fin s q := by
 have hf := fin_ge s q
 have hl := fin_le hq
 refine up_eq qo hl ?_ ?_
 ·intro i hi1 hi2
  by_cases h : i < q
  ·simp [beg_no (s := s) (p := q) (i := i) qo h]
  ·simp [fin_no (s := s) (p := q) (i := i) qo hi2]
 ·intro h
  simp [fin_nl h]
theorem clm_settled {s : ByteArray} {q : Nat} (hq : q ≤ s.size) : clm s q ≤ lst s (clm s q) := by
 unfold clm
 split
 ·rename_i h
  have hi := lst_in hq
  have e1 := beg_same (s := s) (q := q) (x := lst s q) hi.1 qo
  have e2 := fin_same (s := s) (q := q) (x := lst s q) hq hi.1 qo
  have e3 : lst s (lst s q) = lst s q := by
   rw [lst, e1, e2]
   rfl
  omega
 ·omega
theorem zero_settled (s : ByteArray) : 0 ≤ lst s 0 := Nat.zero_le _
def Takes (s : ByteArray) (p : Nat) (r : Int × Int × Bool) : Prop :=
 ∃ q : Nat, r.1 = q ∧ q ≤ s.size ∧ (r.2.1 = 0 ∨ (r.2.1 = 1 ∧ p < s.size ∧ q < s.size) ∨ r.2.1 = 2)
theorem Takes.out {s : ByteArray} {p : Nat} {r : Int × Int × Bool} (h : 0 ≤ r.1 ∧ r.1 ≤ s.size) (k : r.2.1 = 0 ∨ r.2.1 = 2) : Takes s p r :=
 ⟨r.1.toNat, by omega, by omega, by omega⟩
theorem wayL_t {s : ByteArray} {p n : Nat} (hp : p ≤ s.size) : 0 ≤ (wayL s p n true).1 ∧ (wayL s p n true).1 ≤ s.size := by
 have := fin_le hp
 simp only [wayL, mostL, if_true]; split <;> omega
theorem eol_takes {s : ByteArray} {p n : Nat} (hp : p ≤ s.size) (hl : p ≤ lst s p) (hn : 1 ≤ n) (h : (wayEol s p n).2.2 = false) : Takes s p (wayEol s p n) := by
 have hI := wayEol_in (s := s) (p := p) hn
 revert h hI
 unfold wayEol
 split
 ·intro h; simp at h
 ·rename_i hm
  intro _ hI
  have hm' : lin s p + n - 1 < lns s := by omega
  have ha := att_in hm'
  have hle := lin_lst hm'
  have hll := lst_line hm'
  have hfl := fin_le ha.1
  simp only at hI
  refine ⟨lst s (att s (lin s p + n - 1)), rfl, by omega, ?_⟩
  cases he : emp s (lst s (att s (lin s p + n - 1))) with
  | true => left; simp
  | false =>
   right; left
   have e2 := emp_lst hm'
   rw [he] at e2
   have hne : ¬ ((att s (lin s p + n - 1) : Nat) : Int) = ((fin s (att s (lin s p + n - 1)) : Nat) : Int) := by
    intro h; rw [h] at e2; simp at e2
   have hge := fin_ge s (att s (lin s p + n - 1))
   rw [if_pos qo] at hll
   refine ⟨by simp, ?_, by omega⟩
   by_cases h1 : n = 1
   ·subst h1
    have hq : lst s p = lst s (att s (lin s p)) := by
     have i1 := lst_max s p
     have i2 := lst_max s (att s (lin s p))
     rw [beg_att (lin_lt hp), ← fin_eq hp] at i2
     rw [beg_eq hp] at i1
     omega
    rw [Nat.add_sub_cancel] at hll hge hfl hne
    omega
   ·have : ¬ lst s (att s (lin s p + n - 1)) ≤ p := by
     intro hc
     have := lin_mono (s := s) hc
     omega
    omega
theorem end_takes {s : ByteArray} {p n : Nat} (g : Bool) (hp : p ≤ s.size) (h : (endWay s g n p).2.2 = false) : Takes s p (endWay s g n p) := by
 revert h
 unfold endWay
 split
 ·intro h; simp at h
 ·rename_i hm
  intro _
  have h1 := estep_ge (s := s) (q := ((p : Int) + 1).toNat) (g := g) qo
  have h2 := estep_lt s ((p : Int) + 1).toNat g
  have h3 : ∀ k, eitr s g k p < s.size := by
   intro k
   induction k with
   | zero => simp only [eitr]; omega
   | succ k ih => simp only [eitr]; have := estep_lt s (eitr s g k p + 1).toNat g; split <;> omega
  have h4 := h3 n
  have h5 := eitr_pos (s := s) (r := p) (g := g) qo n
  exact ⟨(eitr s g n p).toNat, by simp only; omega, by omega, Or.inr (Or.inl ⟨rfl, by omega, by omega⟩)⟩
theorem byte_takes {s : ByteArray} {p n f : Nat} (key c : Int) (hp : p ≤ s.size) (hf : 1 ≤ f) (h : (byteWay s p key c n f).2.2 = false) : Takes s p (byteWay s p key c n f) := by
 have h3 := fin_le hp
 have hU : ∀ d, -1 ≤ d → d ≤ 0 → (resU d (fndU s c (fin s p) (fin s p - (p + f)) n (p + f))).2.2 = false → Takes s p (resU d (fndU s c (fin s p) (fin s p - (p + f)) n (p + f))) := by
  intro d h1 h2
  cases hh : fndU s c (fin s p) (fin s p - (p + f)) n (p + f) with
  | none => intro h; simp [resU] at h
  | some q =>
   intro _
   have := fndU_lt _ _ _ _ hh
   exact ⟨((q : Int) + d).toNat, by simp only [resU]; omega, by omega, Or.inr (Or.inl ⟨rfl, by omega, by omega⟩)⟩
 have hD : ∀ d, 0 ≤ d → d ≤ 1 → (resD d (fndD s c (beg s p) n (p + 1 - f))).2.2 = false → Takes s p (resD d (fndD s c (beg s p) n (p + 1 - f))) := by
  intro d h1 h2
  cases hh : fndD s c (beg s p) n (p + 1 - f) with
  | none => intro h; simp [resD] at h
  | some q =>
   intro _
   have := fndD_lt _ _ _ hh
   exact ⟨((q : Int) + d).toNat, by simp only [resD]; omega, by omega, Or.inl rfl⟩
 revert h
 unfold byteWay
 split
 ·exact hU 0 qo qo
 ·split
  ·exact hU (-1) qo qo
  ·split
   ·exact hD 0 qo qo
   ·exact hD 1 qo qo
theorem pair_takes {s : ByteArray} {p : Nat} (hp : p ≤ s.size) (h : (pairWay s p).2.2 = false) : Takes s p (pairWay s p) := by
 have h3 := fin_le hp
 have hu := up_ge (nobr s) (fin s p) p
 revert h
 unfold pairWay
 split
 ·intro h
  have := mtch_lt (s := s) (p := up (nobr s) (fin s p) p) qo
  simp only [decide_eq_false_iff_not] at h
  exact ⟨(mtch s (up (nobr s) (fin s p) p)).toNat, by simp only; omega, by omega, Or.inr (Or.inl ⟨rfl, by omega, by omega⟩)⟩
 ·simp only; intro h; exact Bool.noConfusion h
theorem lineWay_kind {s : ByteArray} {p : Nat} (key : Int) (n : Nat) (given : Bool) : (lineWay s p key n given).2.1 = 0 ∨ (lineWay s p key n given).2.1 = 2 := by
 have h1 : ∀ m, (lineTo s p m).2.1 = 0 ∨ (lineTo s p m).2.1 = 2 := by intro m; unfold lineTo; split <;> simp
 have h2 : ∀ m, (lineNo s m).2.1 = 0 ∨ (lineNo s m).2.1 = 2 := by intro m; unfold lineNo; simp
 unfold lineWay
 split
 ·exact h1 _
 ·split
  ·exact h1 _
  ·exact h2 _
theorem goWay_takes {s : ByteArray} {p n : Nat} (key c : Int) (given b : Bool) (hp : p ≤ s.size) (hl : p ≤ lst s p) (hn : 1 ≤ n) (h : (goWay s p key c n given true b).2.2 = false) : Takes s p (goWay s p key c n given true b) := by
 revert h
 unfold goWay
 (repeat' split) <;> intro h
 ·exact Takes.out (wayH_in hp) (Or.inl rfl)
 ·exact Takes.out (wayL_t hp) (Or.inl rfl)
 ·exact Takes.out (by have := beg_le s p; simp only; omega) (Or.inl rfl)
 ·exact Takes.out (by have := frs_le hp; simp only; omega) (Or.inl rfl)
 ·exact eol_takes hp hl hn h
 ·exact Takes.out (lineWay_in _ _ _) (lineWay_kind _ _ _)
 ·refine Takes.out ?_ (Or.inl rfl)
  have h1 := itr_w_le (g := key == 87) hp n
  have h2 := fin_le (itr_w_le (g := key == 87) hp (n - 1))
  simp only [wordQ, if_true]
  split <;> omega
 ·exact Takes.out (by have := itr_b_le (s := s) (p := p) (g := key == 66) n; simp only [wayB]; omega) (Or.inl rfl)
 ·exact end_takes _ hp h
 ·exact byte_takes _ _ hp (frm_pos _ _) h
 ·exact Takes.out (by have := itr_p_le (down := key == 125) hp n; simp only [parQ, if_true]; omega) (Or.inl rfl)
 ·exact pair_takes hp h
