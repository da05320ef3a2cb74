/- A part. -/
import Derived.Test.YtlendfhehhacpaaGreatP03
set_option linter.unusedVariables false
set_option linter.unusedSimpArgs false
set_option maxRecDepth 100000
set_option maxHeartbeats 8000000
namespace Go.Proofs.YtlendfhehhacpaaGreat.Nib
def wes (s : ByteArray) (g : Bool) (r : Nat) : Nat := if estep s g (r + 1) < 0 then r else (estep s g (r + 1)).toNat
theorem wes_ge (s : ByteArray) (g : Bool) (r : Nat) : r ≤ wes s g r := by
 unfold wes
 split
 ·exact Nat.le_refl _
 ·rename_i h
  have := estep_ge (s := s) (q := r + 1) (g := g) qo
  omega
theorem wes_gt {s : ByteArray} {g : Bool} {r : Nat} (h : ¬ estep s g (r + 1) < 0) : r < wes s g r := by
 unfold wes
 rw [if_neg h]
 have := estep_ge (s := s) (q := r + 1) (g := g) qo
 omega
theorem wes_le {s : ByteArray} {g : Bool} {r : Nat} (h : r ≤ s.size) : wes s g r ≤ s.size := by
 unfold wes
 split
 ·exact h
 ·have := estep_lt s (r + 1) g; omega
theorem itr_wes_ge (s : ByteArray) (g : Bool) (r n : Nat) : r ≤ itr (wes s g) n r := by
 induction n with
 | zero => exact Nat.le_refl _
 | succ n ih => exact Nat.le_trans ih (wes_ge s g _)
theorem itr_wes_le {s : ByteArray} {g : Bool} {r : Nat} (h : r ≤ s.size) (n : Nat) : itr (wes s g) n r ≤ s.size := by
 induction n with
 | zero => exact h
 | succ n ih => exact wes_le ih
theorem itr_succ' (f : Nat → Nat) (n r : Nat) : itr f (n + 1) r = itr f n (f r) := by
 induction n with
 | zero => rfl
 | succ n ih =>
  show f (itr f (n + 1) r) = f (itr f n (f r))
  rw [ih]
theorem itr_fix {f : Nat → Nat} {r : Nat} (h : f r = r) (n : Nat) : itr f n r = r := by
 induction n with
 | zero => rfl
 | succ n ih => show f (itr f n r) = r; rw [ih, h]
theorem eitr_itr (s : ByteArray) (g : Bool) (r n : Nat) : eitr s g n (r : Int) = ((itr (wes s g) n r : Nat) : Int) := by
 induction n with
 | zero => rfl
 | succ n ih =>
  show (if estep s g (eitr s g n r + 1).toNat < 0 then eitr s g n r else estep s g (eitr s g n r + 1).toNat) = ((wes s g (itr (wes s g) n r) : Nat) : Int)
  rw [ih]
  have e : (((itr (wes s g) n r : Nat) : Int) + 1).toNat = itr (wes s g) n r + 1 := by omega
  rw [e]
  unfold wes
  split
  ·rfl
  ·omega
theorem endWay_itr (s : ByteArray) (g : Bool) (p n : Nat) (hn : 1 ≤ n) : (endWay s g n p).2.2 = (((itr (wes s g) n p : Nat) : Int) == (p : Int)) ∧ ((endWay s g n p).2.2 = false → (endWay s g n p).1 = ((itr (wes s g) n p : Nat) : Int) ∧ (endWay s g n p).2.1 = 1) := by
 have e : ((p : Int) + 1).toNat = p + 1 := by omega
 obtain ⟨k, rfl⟩ : ∃ k, n = k + 1 := ⟨n - 1, by omega⟩
 unfold endWay
 rw [e]
 by_cases h : estep s g (p + 1) < 0
 ·rw [if_pos h]
  have h1 : wes s g p = p := by unfold wes; rw [if_pos h]
  rw [itr_fix h1]
  simp
 ·rw [if_neg h]
  have h1 := wes_gt h
  have h2 := itr_wes_ge s g (wes s g p) k
  rw [← itr_succ'] at h2
  rw [eitr_itr]
  refine ⟨?_, fun _ => ⟨rfl, rfl⟩⟩
  have : (((itr (wes s g) (k + 1) p : Nat) : Int) == (p : Int)) = false := by simp; omega
  rw [this]
theorem wes_eq {s : ByteArray} {g : Bool} {r : Nat} (h : r < s.size) : wes s g r = if up (sp s) s.size (r + 1) = s.size then r else wrun s (up (sp s) s.size (r + 1)) g - 1 := by
 have hle : up (sp s) s.size (r + 1) ≤ s.size := up_le qo
 unfold wes estep
 by_cases hq : up (sp s) s.size (r + 1) < s.size
 ·rw [if_pos hq, if_neg (by omega : ¬ up (sp s) s.size (r + 1) = s.size)]
  generalize up (sp s) s.size (r + 1) = q at *
  have h1 : wrun s q g = up (like s q g) s.size (q + 1) := up_step hq (like_self s q g)
  have h2 : q + 1 ≤ up (like s q g) s.size (q + 1) := up_ge (like s q g) s.size (q + 1)
  rw [h1, if_neg qo]
  omega
 ·rw [if_neg hq, if_pos qo, if_pos qo]
theorem wes_end {s : ByteArray} {g : Bool} : wes s g s.size = s.size := by
 unfold wes estep
 have h1 : s.size + 1 ≤ up (sp s) s.size (s.size + 1) := up_ge _ _ _
 have h2 : ¬ up (sp s) s.size (s.size + 1) < s.size := by omega
 simp [h2]
theorem emp_in {s : ByteArray} {j i : Nat} (hj : j < lns s) (h1 : att s j ≤ i) (h2 : i ≤ fin s (att s j)) (h : att s j < fin s (att s j)) : emp s i = false := by
 have hf := fin_le (att_in hj).1
 by_cases he : i = fin s (att s j)
 ·rw [he]; exact emp_fin hj h
 ·exact emp_no qo (fin_no h1 qo)
theorem bgap_go {s : ByteArray} {i : Nat} (h : spc (bt s i) = true) (he : emp s i = false) : dn (bgap s) i = dn (bgap s) (i - 1) := by
 cases i with
 | zero => rfl
 | succ k => exact dn_step (by unfold bgap; rw [h, he]; rfl)
theorem bgap_ink {s : ByteArray} {i : Nat} (h : spc (bt s i) = false) : dn (bgap s) i = i := by
 cases i with
 | zero => rfl
 | succ k => exact dn_stop (by unfold bgap; rw [h]; rfl)
theorem bgap_emp {s : ByteArray} {i : Nat} (h : emp s i = true) : dn (bgap s) i = i := by
 cases i with
 | zero => rfl
 | succ k => exact dn_stop (by unfold bgap; rw [h]; simp)
theorem bstep_run {s : ByteArray} {r : Nat} {g : Bool} (h0 : 0 < r) (hr : r ≤ s.size) : bstep s g r = if bt s (bto s r) = 10 then bto s r else runB s (bto s r) g := by
 have hb := bto_le s r
 have hend : 0 < bto s r → bgap s (bto s r - 1) = false := fun h => dn_end h
 unfold bstep
 rw [if_neg qo]
 generalize bto s r = B at *
 by_cases h10 : bt s B = 10
 ·rw [if_pos h10]
  have : cls (bt s B) g < 2 := cls_spc (by rw [h10]; rfl)
  rw [if_pos this]
 ·rw [if_neg h10]
  by_cases hc : cls (bt s B) g < 2
  ·rw [if_pos hc]
   by_cases hz : B = 0
   ·subst hz; rfl
   ·exfalso
    have h1 := hend qo
    unfold bgap at h1
    rw [show B - 1 + 1 = B by omega] at h1
    have h2 : spc (bt s B) = true := by
     cases hs : spc (bt s B) with
     | true => rfl
     | false => have := cls_nsp (g := g) hs; omega
    rw [h2, Bool.true_and] at h1
    have h3 : emp s B = true := by cases he : emp s B with
     | true => rfl
     | false => rw [he] at h1; simp at h1
    have hn : nl s B = false := by unfold nl; simp [h10]
    rw [emp_no qo hn] at h3
    exact absurd h3 qi
  ·rw [if_neg hc]; rfl
theorem bstep_lt {s : ByteArray} {r : Nat} {g : Bool} (h : 0 < r) : bstep s g r < r := by
 have hb := bto_le s r
 unfold bstep
 rw [if_neg qo]
 split
 ·omega
 ·have := dn_le (like s (bto s r) g) (bto s r); omega
theorem wayB_eq (s : ByteArray) (p n : Nat) (g : Bool) (hn : 1 ≤ n) : (((itr (bstep s g) n p : Nat) : Int) == (p : Int)) = ((p : Int) == 0) := by
 obtain ⟨k, rfl⟩ : ∃ k, n = k + 1 := ⟨n - 1, by omega⟩
 rw [Bool.eq_iff_iff]
 simp only [beq_iff_eq]
 by_cases hp : p = 0
 ·subst hp
  have : bstep s g 0 = 0 := by unfold bstep; rw [if_pos rfl]
  rw [itr_fix this]; simp
 ·have h1 := bstep_lt (s := s) (g := g) (show 0 < p by omega)
  have h2 := itr_b_le (s := s) (p := bstep s g p) (g := g) k
  rw [← itr_succ'] at h2
  constructor <;> intro h <;> omega
theorem beg_same {s : ByteArray} {q x : Nat} (h1 : beg s q ≤ x) (h2 : x ≤ q) : beg s x = beg s q := by
 unfold beg
 refine dn_eq h1 ?_ ?_
 ·intro i hi1 hi2
  have := beg_no (s := s) (p := q) (i := i) hi1 qo
  simp [this]
 ·intro h
  have := beg_nl (s := s) (p := q) h
  simp only [beg] at this
  simp [this]
theorem fin_same {s : ByteArray} {q x : Nat} (hq : q ≤ s.size) (h1 : beg s q ≤ x) (h2 : x ≤ q) : fin s x = fin s q := by
 have hf := fin_ge s q
 have hl := fin_le hq
 refine up_eq qo hl ?_ ?_
 ·intro i hi1 hi2
  by_cases h : i < q
  ·simp [beg_no (s := s) (p := q) (i := i) qo h]
  ·simp [fin_no (s := s) (p := q) (i := i) qo hi2]
 ·intro h
  simp [fin_nl h]
theorem clm_settled {s : ByteArray} {q : Nat} (hq : q ≤ s.size) : clm s q ≤ lst s (clm s q) := by
 unfold clm
 split
 ·rename_i h
  have hi := lst_in hq
  have e1 := beg_same (s := s) (q := q) (x := lst s q) hi.1 qo
  have e2 := fin_same (s := s) (q := q) (x := lst s q) hq hi.1 qo
  have e3 : lst s (lst s q) = lst s q := by
   rw [lst, e1, e2]
   rfl
  omega
 ·omega
theorem zero_settled (s : ByteArray) : 0 ≤ lst s 0 := Nat.zero_le _
def Takes (s : ByteArray) (p : Nat) (r : Int × Int × Bool) : Prop :=
 ∃ q : Nat, r.1 = q ∧ q ≤ s.size ∧ (r.2.1 = 0 ∨ (r.2.1 = 1 ∧ p < s.size ∧ q < s.size) ∨ r.2.1 = 2)
theorem Takes.out {s : ByteArray} {p : Nat} {r : Int × Int × Bool} (h : 0 ≤ r.1 ∧ r.1 ≤ s.size) (k : r.2.1 = 0 ∨ r.2.1 = 2) : Takes s p r :=
 ⟨r.1.toNat, by omega, by omega, by omega⟩
theorem wayL_t {s : ByteArray} {p n : Nat} (hp : p ≤ s.size) : 0 ≤ (wayL s p n true).1 ∧ (wayL s p n true).1 ≤ s.size := by
 have := fin_le hp
 simp only [wayL, mostL, if_true]; split <;> omega
theorem eol_takes {s : ByteArray} {p n : Nat} (hp : p ≤ s.size) (hl : p ≤ lst s p) (hn : 1 ≤ n) (h : (wayEol s p n).2.2 = false) : Takes s p (wayEol s p n) := by
 have hI := wayEol_in (s := s) (p := p) hn
 revert h hI
 unfold wayEol
 split
 ·intro h; simp at h
 ·rename_i hm
  intro _ hI
  have hm' : lin s p + n - 1 < lns s := by omega
  have ha := att_in hm'
  have hle := lin_lst hm'
  have hll := lst_line hm'
  have hfl := fin_le ha.1
  simp only at hI
  refine ⟨lst s (att s (lin s p + n - 1)), rfl, by omega, ?_⟩
  cases he : emp s (lst s (att s (lin s p + n - 1))) with
  | true => left; simp
  | false =>
   right; left
   have e2 := emp_lst hm'
   rw [he] at e2
   have hne : ¬ ((att s (lin s p + n - 1) : Nat) : Int) = ((fin s (att s (lin s p + n - 1)) : Nat) : Int) := by
    intro h; rw [h] at e2; simp at e2
   have hge := fin_ge s (att s (lin s p + n - 1))
   rw [if_pos qo] at hll
   refine ⟨by simp, ?_, by omega⟩
   by_cases h1 : n = 1
   ·subst h1
    have hq : lst s p = lst s (att s (lin s p)) := by
     have i1 := lst_max s p
     have i2 := lst_max s (att s (lin s p))
     rw [beg_att (lin_lt hp), ← fin_eq hp] at i2
     rw [beg_eq hp] at i1
     omega
    rw [Nat.add_sub_cancel] at hll hge hfl hne
    omega
   ·have : ¬ lst s (att s (lin s p + n - 1)) ≤ p := by
     intro hc
     have := lin_mono (s := s) hc
     omega
    omega
theorem end_takes {s : ByteArray} {p n : Nat} (g : Bool) (hp : p ≤ s.size) (h : (endWay s g n p).2.2 = false) : Takes s p (endWay s g n p) := by
 revert h
 unfold endWay
 split
 ·intro h; simp at h
 ·rename_i hm
  intro _
  have h1 := estep_ge (s := s) (q := ((p : Int) + 1).toNat) (g := g) qo
  have h2 := estep_lt s ((p : Int) + 1).toNat g
  have h3 : ∀ k, eitr s g k p < s.size := by
   intro k
   induction k with
   | zero => simp only [eitr]; omega
   | succ k ih => simp only [eitr]; have := estep_lt s (eitr s g k p + 1).toNat g; split <;> omega
  have h4 := h3 n
  have h5 := eitr_pos (s := s) (r := p) (g := g) qo n
  exact ⟨(eitr s g n p).toNat, by simp only; omega, by omega, Or.inr (Or.inl ⟨rfl, by omega, by omega⟩)⟩
theorem byte_takes {s : ByteArray} {p n f : Nat} (key c : Int) (hp : p ≤ s.size) (hf : 1 ≤ f) (h : (byteWay s p key c n f).2.2 = false) : Takes s p (byteWay s p key c n f) := by
 have h3 := fin_le hp
 have hU : ∀ d, -1 ≤ d → d ≤ 0 → (resU d (fndU s c (fin s p) (fin s p - (p + f)) n (p + f))).2.2 = false → Takes s p (resU d (fndU s c (fin s p) (fin s p - (p + f)) n (p + f))) := by
  intro d h1 h2
  cases hh : fndU s c (fin s p) (fin s p - (p + f)) n (p + f) with
  | none => intro h; simp [resU] at h
  | some q =>
   intro _
   have := fndU_lt _ _ _ _ hh
   exact ⟨((q : Int) + d).toNat, by simp only [resU]; omega, by omega, Or.inr (Or.inl ⟨rfl, by omega, by omega⟩)⟩
 have hD : ∀ d, 0 ≤ d → d ≤ 1 → (resD d (fndD s c (beg s p) n (p + 1 - f))).2.2 = false → Takes s p (resD d (fndD s c (beg s p) n (p + 1 - f))) := by
  intro d h1 h2
  cases hh : fndD s c (beg s p) n (p + 1 - f) with
  | none => intro h; simp [resD] at h
  | some q =>
   intro _
   have := fndD_lt _ _ _ hh
   exact ⟨((q : Int) + d).toNat, by simp only [resD]; omega, by omega, Or.inl rfl⟩
 revert h
 unfold byteWay
 split
 ·exact hU 0 qo qo
 ·split
  ·exact hU (-1) qo qo
  ·split
   ·exact hD 0 qo qo
   ·exact hD 1 qo qo
theorem pair_takes {s : ByteArray} {p : Nat} (hp : p ≤ s.size) (h : (pairWay s p).2.2 = false) : Takes s p (pairWay s p) := by
 have h3 := fin_le hp
 have hu := up_ge (nobr s) (fin s p) p
 revert h
 unfold pairWay
 split
 ·intro h
  have := mtch_lt (s := s) (p := up (nobr s) (fin s p) p) qo
  simp only [decide_eq_false_iff_not] at h
  exact ⟨(mtch s (up (nobr s) (fin s p) p)).toNat, by simp only; omega, by omega, Or.inr (Or.inl ⟨rfl, by omega, by omega⟩)⟩
 ·simp only; intro h; exact Bool.noConfusion h
theorem lineWay_kind {s : ByteArray} {p : Nat} (key : Int) (n : Nat) (given : Bool) : (lineWay s p key n given).2.1 = 0 ∨ (lineWay s p key n given).2.1 = 2 := by
 have h1 : ∀ m, (lineTo s p m).2.1 = 0 ∨ (lineTo s p m).2.1 = 2 := by intro m; unfold lineTo; split <;> simp
 have h2 : ∀ m, (lineNo s m).2.1 = 0 ∨ (lineNo s m).2.1 = 2 := by intro m; unfold lineNo; simp
 unfold lineWay
 split
 ·exact h1 _
 ·split
  ·exact h1 _
  ·exact h2 _
theorem goWay_takes {s : ByteArray} {p n : Nat} (key c : Int) (given b : Bool) (hp : p ≤ s.size) (hl : p ≤ lst s p) (hn : 1 ≤ n) (h : (goWay s p key c n given true b).2.2 = false) : Takes s p (goWay s p key c n given true b) := by
 revert h
 unfold goWay
 (repeat' split) <;> intro h
 ·exact Takes.out (wayH_in hp) (Or.inl rfl)
 ·exact Takes.out (wayL_t hp) (Or.inl rfl)
 ·exact Takes.out (by have := beg_le s p; simp only; omega) (Or.inl rfl)
 ·exact Takes.out (by have := frs_le hp; simp only; omega) (Or.inl rfl)
 ·exact eol_takes hp hl hn h
 ·exact Takes.out (lineWay_in _ _ _) (lineWay_kind _ _ _)
 ·refine Takes.out ?_ (Or.inl rfl)
  have h1 := itr_w_le (g := key == 87) hp n
  have h2 := fin_le (itr_w_le (g := key == 87) hp (n - 1))
  simp only [wordQ, if_true]
  split <;> omega
 ·exact Takes.out (by have := itr_b_le (s := s) (p := p) (g := key == 66) n; simp only [wayB]; omega) (Or.inl rfl)
 ·exact end_takes _ hp h
 ·exact byte_takes _ _ hp (frm_pos _ _) h
 ·exact Takes.out (by have := itr_p_le (down := key == 125) hp n; simp only [parQ, if_true]; omega) (Or.inl rfl)
 ·exact pair_takes hp h
theorem mtD_other {s : ByteArray} {a b : Int} (hab : a ≠ b) : ∀ (j : Nat) (n : Int), 0 ≤ n → (1 ≤ n ∨ (1 ≤ j ∧ bt s (j - 1) = a)) → 0 ≤ mtD s a b n j → bt s (mtD s a b n j).toNat = b := by
 intro j
 induction j with
 | zero => intro n _ _ h; simp only [mtD] at h; omega
 | succ j ih =>
  intro n hn ho h
  simp only [mtD] at h ⊢
  by_cases hA : bt s j = a
  ·have hB : bt s j ≠ b := fun e => hab (hA.symm.trans e)
   have e : dep s a b n j = n + 1 := by unfold dep; rw [if_pos hA, if_neg hB]; omega
   rw [e, if_neg qo] at h ⊢
   exact ih _ qo (Or.inl qo) h
  ·have hn1 : 1 ≤ n := by
    rcases ho with h | h
    ·exact h
    ·exact absurd h.2 hA
   by_cases hB : bt s j = b
   ·have e : dep s a b n j = n - 1 := by unfold dep; rw [if_neg hA, if_pos hB]; omega
    rw [e] at h ⊢
    by_cases h1 : n = 1
    ·rw [if_pos qo]; simpa using hB
    ·rw [if_neg qo] at h ⊢
     exact ih _ qo (Or.inl qo) h
   ·have e : dep s a b n j = n := by unfold dep; rw [if_neg hA, if_neg hB]; omega
    rw [e, if_neg qo] at h ⊢
    exact ih _ hn (Or.inl hn1) h
theorem mtU_ge {s : ByteArray} {a b : Int} : ∀ (f : Nat) (n : Int) (i : Nat), 0 ≤ mtU s a b f n i → (i : Int) ≤ mtU s a b f n i := by
 intro f
 induction f with
 | zero => intro n i h; simp only [mtU] at h; omega
 | succ f ih =>
  intro n i h
  simp only [mtU] at h ⊢
  split at h
  ·rename_i hi
   rw [if_pos hi]
   split at h
   ·rename_i hd; rw [if_pos hd]; omega
   ·rename_i hd; rw [if_neg hd]; have := ih _ _ h; omega
  ·omega
theorem mtch_gt {s : ByteArray} {p : Nat} (hp : p < s.size) (ho : opn (bt s p) = true) (h : 0 ≤ mtch s p) : (p : Int) < mtch s p := by
 unfold mtch at h ⊢
 rw [if_pos ho] at h ⊢
 have hne : bt s p ≠ prt (bt s p) := by
  unfold opn at ho
  simp only [Bool.or_eq_true, beq_iff_eq] at ho
  rcases ho with (ho | ho) | ho <;> rw [ho] <;> decide
 obtain ⟨f, hf⟩ : ∃ f, s.size - p = f + 1 := ⟨s.size - p - 1, by omega⟩
 rw [hf] at h ⊢
 simp only [mtU] at h ⊢
 have e : dep s (bt s p) (prt (bt s p)) 0 p = 1 := by unfold dep; rw [if_pos rfl, if_neg hne]; omega
 rw [if_pos hp, e, if_neg qd] at h ⊢
 have := mtU_ge _ _ _ h
 omega
end Go.Proofs.YtlendfhehhacpaaGreat.Nib
