/- A part. -/
import Derived.Test.YtlendfhehhacpaaGreatT01
set_option linter.unusedVariables false
set_option linter.unusedSimpArgs false
set_option maxRecDepth 100000
set_option maxHeartbeats 8000000
namespace Go.Proofs.YtlendfhehhacpaaGreat.Nib
def wayH (s : ByteArray) (p n : Nat) : Int × Int × Bool := (if (p : Int) - n < beg s p then (beg s p : Int) else (p : Int) - n, 0, (p : Int) == (beg s p : Int))
def mostL (s : ByteArray) (p : Nat) (v : Bool) : Nat := if v = true then fin s p else lst s p
def wayL (s : ByteArray) (p n : Nat) (v : Bool) : Int × Int × Bool :=
 (if (mostL s p v : Int) < (p : Int) + n then (mostL s p v : Int) else (p : Int) + n, 0, decide ((if (mostL s p v : Int) < (p : Int) + n then (mostL s p v : Int) else (p : Int) + n) ≤ (p : Int)))
def wayEol (s : ByteArray) (p n : Nat) : Int × Int × Bool :=
 if (lns s : Int) ≤ (lin s p : Int) + n - 1 then (0, 0, true)
 else ((lst s (att s (lin s p + n - 1)) : Int), if emp s (lst s (att s (lin s p + n - 1))) = true then 0 else 1, false)
def wayB (s : ByteArray) (p n : Nat) (g : Bool) : Int × Int × Bool := ((itr (bstep s g) n p : Int), 0, (p : Int) == 0)
def goWay (s : ByteArray) (p : Nat) (key c : Int) (n : Nat) (given v b : Bool) : Int × Int × Bool :=
 if key = 104 then wayH s p n else if key = 108 then wayL s p n v
 else if key = 48 then ((beg s p : Int), 0, false) else if key = 94 then ((frs s p : Int), 0, false)
 else if key = 36 then wayEol s p n
 else if key = 106 ∨ key = 107 ∨ key = 71 ∨ key = 103 then lineWay s p key n given
 else if key = 119 ∨ key = 87 then ((wordQ s p n (key == 87) v : Int), 0, (wordQ s p n (key == 87) v : Int) == (p : Int))
 else if key = 98 ∨ key = 66 then wayB s p n (key == 66)
 else if key = 101 ∨ key = 69 then endWay s (key == 69) n p
 else if key = 102 ∨ key = 116 ∨ key = 70 ∨ key = 84 then byteWay s p key c n (frm key b)
 else if key = 125 ∨ key = 123 then ((parQ s p n (key == 125) v : Int), 0, (parQ s p n (key == 125) v : Int) == (p : Int))
 else pairWay s p
theorem lst_in {s : ByteArray} {p : Nat} (h : p ≤ s.size) : beg s p ≤ lst s p ∧ lst s p ≤ fin s p := by
 have := fin_ge s p; have := beg_le s p
 unfold lst; split <;> omega
def sta (s : ByteArray) (x : Nat) : Prop := x = 0 ∨ (0 < x ∧ nl s (x - 1) = true)
theorem sta_inj {s : ByteArray} {x y : Nat} (hx : sta s x) (hy : sta s y) (h : lin s x = lin s y) : x = y := by
 have key : ∀ a b : Nat, sta s b → lin s a = lin s b → ¬ a < b := by
  intro a b hb h hl
  rcases hb with hb | ⟨hb, hn⟩
  ·omega
  ·obtain ⟨k, rfl⟩ : ∃ k, b = k + 1 := ⟨b - 1, by omega⟩
   have h1 := lin_mono (s := s) (a := a) (b := k) qo
   have h2 : lin s (k + 1) = lin s k + 1 := by simp only [lin]; rw [if_pos (by simpa using hn)]
   omega
 have h1 := key x y hy h
 have h2 := key y x hx h.symm
 omega
theorem sta_beg (s : ByteArray) (p : Nat) : sta s (beg s p) := by
 by_cases h : beg s p = 0
 ·exact Or.inl h
 ·exact Or.inr ⟨by omega, beg_nl qo⟩
theorem fin_lt_of {s : ByteArray} {m : Nat} (h : m + 1 < lns s) : fin s (att s m) < s.size := by
 have h1 := (att_in (s := s) (m := m + 1) h).1
 simp only [att] at h1; omega
theorem fin_last {s : ByteArray} {m : Nat} (h : m + 1 = lns s) : fin s (att s m) = s.size := by
 have h1 := att_in (s := s) (m := m) qo
 have h2 := fin_le (s := s) (p := att s m) h1.1
 by_cases h3 : fin s (att s m) < s.size
 ·have h4 := fin_nl h3
  have h5 : lin s (fin s (att s m) + 1) = lin s (fin s (att s m)) + 1 := by simp only [lin]; rw [if_pos h4]
  have h6 := lin_mono (s := s) (a := fin s (att s m) + 1) (b := s.size) qo
  rw [lin_fin] at h5
  unfold lns at h; omega
 ·omega
theorem sta_att {s : ByteArray} {m : Nat} (h : m < lns s) : sta s (att s m) := by
 cases m with
 | zero => exact Or.inl rfl
 | succ m => exact Or.inr ⟨by simp only [att]; omega, by simp only [att, Nat.add_sub_cancel]; exact fin_nl (fin_lt_of h)⟩
theorem beg_att {s : ByteArray} {m : Nat} (h : m < lns s) : beg s (att s m) = att s m :=
 sta_inj (sta_beg s _) (sta_att h) (lin_beg s _)
theorem beg_eq {s : ByteArray} {p : Nat} (h : p ≤ s.size) : beg s p = att s (lin s p) :=
 sta_inj (sta_beg s _) (sta_att (lin_lt h)) (by rw [lin_beg, (att_in (lin_lt h)).2])
theorem fin_beg (s : ByteArray) (p : Nat) (h : p ≤ s.size) : fin s (beg s p) = fin s p := by
 have hb := beg_le s p
 have hg := fin_ge s p
 refine up_eq qo (fin_le h) (fun i h1 h2 => ?_) (fun h1 => ?_)
 ·by_cases hi : i < p
  ·simp [beg_no h1 hi]
  ·simp [fin_no (s := s) (p := p) (i := i) qo h2]
 ·simp [fin_nl h1]
theorem fin_eq {s : ByteArray} {p : Nat} (h : p ≤ s.size) : fin s p = fin s (att s (lin s p)) := by rw [← beg_eq h, fin_beg s p h]
theorem line_up {s : ByteArray} {m : Nat} (h : m < lns s) (h0 : 0 < m) : beg s (att s m - 1) = att s (m - 1) ∧ fin s (att s m - 1) = fin s (att s (m - 1)) := by
 obtain ⟨k, rfl⟩ : ∃ k, m = k + 1 := ⟨m - 1, by omega⟩
 have hf := fin_lt_of h
 simp only [att, Nat.add_sub_cancel]
 have hl : lin s (fin s (att s k)) = k := by rw [lin_fin]; exact (att_in qo).2
 constructor
 ·rw [beg_eq qo, hl]
 ·rw [fin_eq qo, hl]
theorem line_down {s : ByteArray} {m : Nat} (h : m + 1 < lns s) : beg s (fin s (att s m) + 1) = att s (m + 1) ∧ fin s (fin s (att s m) + 1) = fin s (att s (m + 1)) := by
 have : fin s (att s m) + 1 = att s (m + 1) := rfl
 rw [this]
 exact ⟨beg_att h, rfl⟩
theorem att_pos {s : ByteArray} {m : Nat} (h0 : 0 < m) : 0 < att s m := by
 cases m with
 | zero => omega
 | succ m => simp only [att]; omega
theorem lst_max (s : ByteArray) (p : Nat) : ((lst s p : Nat) : Int) = max ((beg s p : Nat) : Int) (((fin s p : Nat) : Int) - 1) := by
 unfold lst; split <;> omega
def ind (s : ByteArray) (p : Nat) : Nat := up (fun i => blk (bt s i)) (fin s p) (beg s p)
theorem frs_min (s : ByteArray) (p : Nat) (h : p ≤ s.size) : ((frs s p : Nat) : Int) = min ((ind s p : Nat) : Int) ((lst s p : Nat) : Int) := by
 have h1 := beg_le s p
 have h2 := fin_ge s p
 have h3 : ind s p ≤ fin s p := up_le qo
 have h4 : beg s p ≤ ind s p := up_ge _ _ _
 unfold frs
 unfold ind at *
 split
 ·rename_i h5
  unfold lst; split <;> omega
 ·unfold lst; split <;> omega
def runB (s : ByteArray) (p : Nat) (g : Bool) : Nat := dn (like s p g) p
theorem runB_le (s : ByteArray) (p : Nat) (g : Bool) : runB s p g ≤ p := dn_le _ _
theorem wrun_le {s : ByteArray} {p : Nat} {g : Bool} (h : p ≤ s.size) : wrun s p g ≤ s.size := up_le h
theorem wrun_ge (s : ByteArray) (p : Nat) (g : Bool) : p ≤ wrun s p g := up_ge _ _ _
theorem lst_line {s : ByteArray} {m : Nat} (h : m < lns s) : lst s (att s m) = if att s m < fin s (att s m) then fin s (att s m) - 1 else att s m := by
 unfold lst; rw [beg_att h]
theorem lin_lst {s : ByteArray} {m : Nat} (h : m < lns s) : lin s (lst s (att s m)) = m := by
 have h1 := att_in h
 have h2 := fin_le h1.1
 rw [lst_line h]
 split
 ·rename_i h3
  have h4 : lin s (fin s (att s m) - 1) = lin s (att s m) := lin_flat qo (fun i h1 h2 => fin_no h1 qo)
  rw [h4, h1.2]
 ·exact h1.2
theorem emp_lst {s : ByteArray} {m : Nat} (h : m < lns s) : emp s (lst s (att s m)) = (((att s m : Nat) : Int) == ((fin s (att s m) : Nat) : Int)) := by
 have h1 := att_in h
 have h2 := fin_le h1.1
 have h3 := fin_ge s (att s m)
 have hl := lin_lst h
 have hle : lst s (att s m) ≤ s.size := lst_le h1.1
 unfold emp
 rw [beg_eq hle, fin_eq hle, hl, lst_line h, Bool.eq_iff_iff]
 simp only [Bool.and_eq_true, beq_iff_eq]
 split <;> omega
theorem emp_att {s : ByteArray} {m : Nat} (h : m < lns s) : emp s (att s m) = (((att s m : Nat) : Int) == ((fin s (att s m) : Nat) : Int)) := by
 unfold emp
 rw [beg_att h]
 generalize fin s (att s m) = F
 generalize att s m = A
 rw [Bool.eq_iff_iff]
 simp only [Bool.and_eq_true, beq_iff_eq, true_and]
 omega
theorem emp_no {s : ByteArray} {i : Nat} (h : i < s.size) (hn : nl s i = false) : emp s i = false := by
 have h1 : i + 1 ≤ fin s i := by
  unfold fin; rw [up_step h (by simp [hn])]; exact up_ge _ _ _
 unfold emp
 have : (fin s i == i) = false := by simp; omega
 rw [this, Bool.and_false]
theorem nl_spc {s : ByteArray} {i : Nat} (h : nl s i = true) : spc (bt s i) = true := by
 unfold nl at h
 unfold spc
 simp only [beq_iff_eq] at h
 simp [h]
theorem fin_att_no {s : ByteArray} {j i : Nat} (h1 : att s j ≤ i) (h2 : i < fin s (att s j)) : nl s i = false := fin_no h1 h2
theorem emp_fin {s : ByteArray} {j : Nat} (hj : j < lns s) (h : att s j < fin s (att s j)) : emp s (fin s (att s j)) = false := by
 have h1 := fin_le (att_in hj).1
 have hb : beg s (fin s (att s j)) = att s j := by rw [beg_eq h1, lin_fin, (att_in hj).2]
 unfold emp
 have : (beg s (fin s (att s j)) == fin s (att s j)) = false := by rw [hb]; simp; omega
 rw [this, Bool.false_and]
theorem emp_att_ne {s : ByteArray} {j : Nat} (hj : j < lns s) (h : emp s (att s j) = false) : att s j < fin s (att s j) := by
 have h3 := fin_ge s (att s j)
 rw [emp_att hj] at h
 simp at h
 omega
theorem spc_nl_f {s : ByteArray} {i : Nat} (h : spc (bt s i) = false) : nl s i = false := by
 cases hn : nl s i with
 | false => rfl
 | true => rw [nl_spc hn] at h; exact absurd h qi
theorem emp_behind {s : ByteArray} {q : Nat} (h0 : 0 < q) (hn : nl s (q - 1) = false) : emp s q = false := by
 obtain ⟨k, rfl⟩ : ∃ k, q = k + 1 := ⟨q - 1, by omega⟩
 have h1 : beg s (k + 1) ≤ k := by
  unfold beg
  simp only [Nat.add_sub_cancel] at hn
  rw [dn_step (by simp [hn])]
  exact dn_le _ _
 unfold emp
 have : (beg s (k + 1) == k + 1) = false := by simp; omega
 rw [this, Bool.false_and]
theorem wrun_nsp {s : ByteArray} {r i : Nat} {g : Bool} (h0 : spc (bt s r) = false) (h1 : r ≤ i) (h2 : i < wrun s r g) : spc (bt s i) = false := by
 have h := up_all (c := like s r g) (n := s.size) h1 h2
 unfold like at h
 simp only [beq_iff_eq] at h
 have h3 := cls_nsp (g := g) h0
 cases hs : spc (bt s i) with
 | false => rfl
 | true => have := cls_spc (g := g) hs; omega
theorem wrun_gt {s : ByteArray} {r : Nat} {g : Bool} (h : r < s.size) : r < wrun s r g := by
 have h1 : up (like s r g) s.size r = up (like s r g) s.size (r + 1) := up_step h (like_self s r g)
 have h2 : r + 1 ≤ up (like s r g) s.size (r + 1) := up_ge (like s r g) s.size (r + 1)
 have h3 : wrun s r g = up (like s r g) s.size r := rfl
 omega
theorem emp_wfrom {s : ByteArray} {r : Nat} {g : Bool} (h : wfrom s r g ≠ r) : emp s (wfrom s r g) = false := by
 unfold wfrom at *
 split at h
 ·rename_i hc
  rw [if_pos hc]
  have hg := wrun_gt (g := g) hc.1
  exact emp_behind qo (spc_nl_f (wrun_nsp (g := g) hc.2 qo qo))
 ·exact absurd rfl h
theorem wgap1 (s : ByteArray) (r i : Nat) (h : spc (bt s i) = false) : wgap s r i = false := by unfold wgap; rw [h, Bool.false_and]
theorem wgap2 (s : ByteArray) (r i : Nat) (g : Bool) (h : spc (bt s i) = true) (h2 : emp s i = false ∨ i = wfrom s r g) : wgap s r i = true := by
 unfold wgap
 rw [h, Bool.true_and]
 rcases h2 with h2 | h2
 ·rw [h2]; rfl
 ·by_cases e : i = r
  ·subst e; simp
  ·have := emp_wfrom (s := s) (r := r) (g := g) qo
   rw [h2, this]; rfl
theorem wgap3 (s : ByteArray) (r i : Nat) (g : Bool) (h : wfrom s r g < i) (h2 : emp s i = true) : wgap s r i = false := by
 have := wfrom_ge s r g
 unfold wgap
 have e : (i != r) = true := by simp; omega
 rw [h2, e]; simp
theorem lst_size (s : ByteArray) : lst s s.size = if beg s s.size < s.size then s.size - 1 else s.size := by
 have h1 : fin s s.size = s.size := Nat.le_antisymm (fin_le (Nat.le_refl _)) (fin_ge _ _)
 have h2 := beg_le s s.size
 unfold lst; rw [h1]; split
 ·rfl
 ·omega
theorem clm_word {s : ByteArray} {r : Nat} {g : Bool} (h : r ≤ s.size) : ((clm s (wstep s g r) : Nat) : Int) = if ((lst s s.size : Nat) : Int) < ((wstep s g r : Nat) : Int) then ((lst s s.size : Nat) : Int) else ((wstep s g r : Nat) : Int) := by
 have hle := wstep_le (g := g) h
 by_cases he : wstep s g r = s.size
 ·rw [he]; unfold clm; split <;> split <;> first | rfl | omega
 ·have hlt : wstep s g r < s.size := by omega
  have hg : wgap s r (wstep s g r) = false := up_end (c := wgap s r) (n := s.size) (p := wfrom s r g) hlt
  have hc : clm s (wstep s g r) = wstep s g r := by
   unfold clm
   rw [if_neg]
   generalize wstep s g r = q at *
   unfold wgap at hg
   cases hs : spc (bt s q) with
   | false =>
    have hn := spc_nl_f hs
    have h1 : q + 1 ≤ fin s q := by unfold fin; rw [up_step hlt (by simp [hn])]; exact up_ge _ _ _
    have h2 := beg_le s q
    unfold lst; split <;> omega
   | true =>
    rw [hs, Bool.true_and] at hg
    have he : emp s q = true := by
     cases hq : emp s q with
     | true => rfl
     | false => rw [hq] at hg; simp at hg
    unfold emp at he
    simp only [Bool.and_eq_true, beq_iff_eq] at he
    unfold lst; split <;> omega
  rw [hc, if_neg]
  rw [lst_size]; split <;> omega
theorem mtD_other {s : ByteArray} {a b : Int} (hab : a ≠ b) : ∀ (j : Nat) (n : Int), 0 ≤ n → (1 ≤ n ∨ (1 ≤ j ∧ bt s (j - 1) = a)) → 0 ≤ mtD s a b n j → bt s (mtD s a b n j).toNat = b := by
 intro j
 induction j with
 | zero => intro n _ _ h; simp only [mtD] at h; omega
 | succ j ih =>
  intro n hn ho h
  simp only [mtD] at h ⊢
  by_cases hA : bt s j = a
  ·have hB : bt s j ≠ b := fun e => hab (hA.symm.trans e)
   have e : dep s a b n j = n + 1 := by unfold dep; rw [if_pos hA, if_neg hB]; omega
   rw [e, if_neg qo] at h ⊢
   exact ih _ qo (Or.inl qo) h
  ·have hn1 : 1 ≤ n := by
    rcases ho with h | h
    ·exact h
    ·exact absurd h.2 hA
   by_cases hB : bt s j = b
   ·have e : dep s a b n j = n - 1 := by unfold dep; rw [if_neg hA, if_pos hB]; omega
    rw [e] at h ⊢
    by_cases h1 : n = 1
    ·rw [if_pos qo]; simpa using hB
    ·rw [if_neg qo] at h ⊢
     exact ih _ qo (Or.inl qo) h
   ·have e : dep s a b n j = n := by unfold dep; rw [if_neg hA, if_neg hB]; omega
    rw [e, if_neg qo] at h ⊢
    exact ih _ hn (Or.inl hn1) h
theorem mtU_ge {s : ByteArray} {a b : Int} : ∀ (f : Nat) (n : Int) (i : Nat), 0 ≤ mtU s a b f n i → (i : Int) ≤ mtU s a b f n i := by
 intro f
 induction f with
 | zero => intro n i h; simp only [mtU] at h; omega
 | succ f ih =>
  intro n i h
  simp only [mtU] at h ⊢
  split at h
  ·rename_i hi
   rw [if_pos hi]
   split at h
   ·rename_i hd; rw [if_pos hd]; omega
   ·rename_i hd; rw [if_neg hd]; have := ih _ _ h; omega
  ·omega
theorem mtch_gt {s : ByteArray} {p : Nat} (hp : p < s.size) (ho : opn (bt s p) = true) (h : 0 ≤ mtch s p) : (p : Int) < mtch s p := by
 unfold mtch at h ⊢
 rw [if_pos ho] at h ⊢
 have hne : bt s p ≠ prt (bt s p) := by
  unfold opn at ho
  simp only [Bool.or_eq_true, beq_iff_eq] at ho
  rcases ho with (ho | ho) | ho <;> rw [ho] <;> decide
 obtain ⟨f, hf⟩ : ∃ f, s.size - p = f + 1 := ⟨s.size - p - 1, by omega⟩
 rw [hf] at h ⊢
 simp only [mtU] at h ⊢
 have e : dep s (bt s p) (prt (bt s p)) 0 p = 1 := by unfold dep; rw [if_pos rfl, if_neg hne]; omega
 rw [if_pos hp, e, if_neg qd] at h ⊢
 have := mtU_ge _ _ _ h
 omega
