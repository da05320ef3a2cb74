/- A part. -/
import Derived.Test.YtlendfhehhacpaaGreatP01
set_option linter.unusedVariables false
set_option linter.unusedSimpArgs false
set_option maxRecDepth 100000
set_option maxHeartbeats 8000000
namespace Go.Proofs.YtlendfhehhacpaaGreat.Nib
structure Ed where
 t : ByteArray
 p : Nat
 anchor : Nat
 mode : Int
 keys : ByteArray
 regS : Nat → ByteArray
 regL : Nat → Bool
 find : Int
 findC : Int
 done : List (ByteArray × ByteArray)
 undone : List (ByteArray × ByteArray)
 command : ByteArray
 written : ByteArray
 has : Bool
 before : ByteArray
 typed : ByteArray
 doing : ByteArray
 isDoing : Bool
def isFind (key : Int) : Bool := key == 102 || key == 116 || key == 70 || key == 84
def flp (key : Int) : Int := if key = 102 then 70 else if key = 70 then 102 else if key = 116 then 84 else if key = 84 then 116 else key
def isD (n : Nat) (c : Int) : Bool := decide ((49 ≤ c ∧ c ≤ 57) ∨ (c = 48 ∧ 0 < n))
def nextN (n : Nat) (c : Int) : Nat := if 99 < n * 10 + (c - 48).toNat then 99 else n * 10 + (c - 48).toNat
def AllNum (s : ByteArray) (n : Nat) : Prop := numF s s.size 0 0 = (n, s.size)
theorem lst_line {s : ByteArray} {m : Nat} (h : m < lns s) : lst s (att s m) = if att s m < fin s (att s m) then fin s (att s m) - 1 else att s m := by
 unfold lst; rw [beg_att h]
theorem lin_lst {s : ByteArray} {m : Nat} (h : m < lns s) : lin s (lst s (att s m)) = m := by
 have h1 := att_in h
 have h2 := fin_le h1.1
 rw [lst_line h]
 split
 ·rename_i h3
  have h4 : lin s (fin s (att s m) - 1) = lin s (att s m) := lin_flat qo (fun i h1 h2 => fin_no h1 qo)
  rw [h4, h1.2]
 ·exact h1.2
theorem emp_lst {s : ByteArray} {m : Nat} (h : m < lns s) : emp s (lst s (att s m)) = (((att s m : Nat) : Int) == ((fin s (att s m) : Nat) : Int)) := by
 have h1 := att_in h
 have h2 := fin_le h1.1
 have h3 := fin_ge s (att s m)
 have hl := lin_lst h
 have hle : lst s (att s m) ≤ s.size := lst_le h1.1
 unfold emp
 rw [beg_eq hle, fin_eq hle, hl, lst_line h, Bool.eq_iff_iff]
 simp only [Bool.and_eq_true, beq_iff_eq]
 split <;> omega
theorem emp_att {s : ByteArray} {m : Nat} (h : m < lns s) : emp s (att s m) = (((att s m : Nat) : Int) == ((fin s (att s m) : Nat) : Int)) := by
 unfold emp
 rw [beg_att h]
 generalize fin s (att s m) = F
 generalize att s m = A
 rw [Bool.eq_iff_iff]
 simp only [Bool.and_eq_true, beq_iff_eq, true_and]
 omega
theorem emp_no {s : ByteArray} {i : Nat} (h : i < s.size) (hn : nl s i = false) : emp s i = false := by
 have h1 : i + 1 ≤ fin s i := by
  unfold fin; rw [up_step h (by simp [hn])]; exact up_ge _ _ _
 unfold emp
 have : (fin s i == i) = false := by simp; omega
 rw [this, Bool.and_false]
theorem nl_spc {s : ByteArray} {i : Nat} (h : nl s i = true) : spc (bt s i) = true := by
 unfold nl at h
 unfold spc
 simp only [beq_iff_eq] at h
 simp [h]
theorem fin_att_no {s : ByteArray} {j i : Nat} (h1 : att s j ≤ i) (h2 : i < fin s (att s j)) : nl s i = false := fin_no h1 h2
theorem emp_fin {s : ByteArray} {j : Nat} (hj : j < lns s) (h : att s j < fin s (att s j)) : emp s (fin s (att s j)) = false := by
 have h1 := fin_le (att_in hj).1
 have hb : beg s (fin s (att s j)) = att s j := by rw [beg_eq h1, lin_fin, (att_in hj).2]
 unfold emp
 have : (beg s (fin s (att s j)) == fin s (att s j)) = false := by rw [hb]; simp; omega
 rw [this, Bool.false_and]
theorem emp_att_ne {s : ByteArray} {j : Nat} (hj : j < lns s) (h : emp s (att s j) = false) : att s j < fin s (att s j) := by
 have h3 := fin_ge s (att s j)
 rw [emp_att hj] at h
 simp at h
 omega
theorem spc_nl_f {s : ByteArray} {i : Nat} (h : spc (bt s i) = false) : nl s i = false := by
 cases hn : nl s i with
 | false => rfl
 | true => rw [nl_spc hn] at h; exact absurd h qi
theorem emp_behind {s : ByteArray} {q : Nat} (h0 : 0 < q) (hn : nl s (q - 1) = false) : emp s q = false := by
 obtain ⟨k, rfl⟩ : ∃ k, q = k + 1 := ⟨q - 1, by omega⟩
 have h1 : beg s (k + 1) ≤ k := by
  unfold beg
  simp only [Nat.add_sub_cancel] at hn
  rw [dn_step (by simp [hn])]
  exact dn_le _ _
 unfold emp
 have : (beg s (k + 1) == k + 1) = false := by simp; omega
 rw [this, Bool.false_and]
theorem wrun_nsp {s : ByteArray} {r i : Nat} {g : Bool} (h0 : spc (bt s r) = false) (h1 : r ≤ i) (h2 : i < wrun s r g) : spc (bt s i) = false := by
 have h := up_all (c := like s r g) (n := s.size) h1 h2
 unfold like at h
 simp only [beq_iff_eq] at h
 have h3 := cls_nsp (g := g) h0
 cases hs : spc (bt s i) with
 | false => rfl
 | true => have := cls_spc (g := g) hs; omega
theorem wrun_gt {s : ByteArray} {r : Nat} {g : Bool} (h : r < s.size) : r < wrun s r g := by
 have h1 : up (like s r g) s.size r = up (like s r g) s.size (r + 1) := up_step h (like_self s r g)
 have h2 : r + 1 ≤ up (like s r g) s.size (r + 1) := up_ge (like s r g) s.size (r + 1)
 have h3 : wrun s r g = up (like s r g) s.size r := rfl
 omega
theorem emp_wfrom {s : ByteArray} {r : Nat} {g : Bool} (h : wfrom s r g ≠ r) : emp s (wfrom s r g) = false := by
 unfold wfrom at *
 split at h
 ·rename_i hc
  rw [if_pos hc]
  have hg := wrun_gt (g := g) hc.1
  exact emp_behind qo (spc_nl_f (wrun_nsp (g := g) hc.2 qo qo))
 ·exact absurd rfl h
theorem wgap1 (s : ByteArray) (r i : Nat) (h : spc (bt s i) = false) : wgap s r i = false := by unfold wgap; rw [h, Bool.false_and]
theorem wgap2 (s : ByteArray) (r i : Nat) (g : Bool) (h : spc (bt s i) = true) (h2 : emp s i = false ∨ i = wfrom s r g) : wgap s r i = true := by
 unfold wgap
 rw [h, Bool.true_and]
 rcases h2 with h2 | h2
 ·rw [h2]; rfl
 ·by_cases e : i = r
  ·subst e; simp
  ·have := emp_wfrom (s := s) (r := r) (g := g) qo
   rw [h2, this]; rfl
theorem wgap3 (s : ByteArray) (r i : Nat) (g : Bool) (h : wfrom s r g < i) (h2 : emp s i = true) : wgap s r i = false := by
 have := wfrom_ge s r g
 unfold wgap
 have e : (i != r) = true := by simp; omega
 rw [h2, e]; simp
theorem lst_size (s : ByteArray) : lst s s.size = if beg s s.size < s.size then s.size - 1 else s.size := by
 have h1 : fin s s.size = s.size := Nat.le_antisymm (fin_le (Nat.le_refl _)) (fin_ge _ _)
 have h2 := beg_le s s.size
 unfold lst; rw [h1]; split
 ·rfl
 ·omega
theorem clm_word {s : ByteArray} {r : Nat} {g : Bool} (h : r ≤ s.size) : ((clm s (wstep s g r) : Nat) : Int) = if ((lst s s.size : Nat) : Int) < ((wstep s g r : Nat) : Int) then ((lst s s.size : Nat) : Int) else ((wstep s g r : Nat) : Int) := by
 have hle := wstep_le (g := g) h
 by_cases he : wstep s g r = s.size
 ·rw [he]; unfold clm; split <;> split <;> first | rfl | omega
 ·have hlt : wstep s g r < s.size := by omega
  have hg : wgap s r (wstep s g r) = false := up_end (c := wgap s r) (n := s.size) (p := wfrom s r g) hlt
  have hc : clm s (wstep s g r) = wstep s g r := by
   unfold clm
   rw [if_neg]
   generalize wstep s g r = q at *
   unfold wgap at hg
   cases hs : spc (bt s q) with
   | false =>
    have hn := spc_nl_f hs
    have h1 : q + 1 ≤ fin s q := by unfold fin; rw [up_step hlt (by simp [hn])]; exact up_ge _ _ _
    have h2 := beg_le s q
    unfold lst; split <;> omega
   | true =>
    rw [hs, Bool.true_and] at hg
    have he : emp s q = true := by
     cases hq : emp s q with
     | true => rfl
     | false => rw [hq] at hg; simp at hg
    unfold emp at he
    simp only [Bool.and_eq_true, beq_iff_eq] at he
    unfold lst; split <;> omega
  rw [hc, if_neg]
  rw [lst_size]; split <;> omega
def wes (s : ByteArray) (g : Bool) (r : Nat) : Nat := if estep s g (r + 1) < 0 then r else (estep s g (r + 1)).toNat
theorem wes_ge (s : ByteArray) (g : Bool) (r : Nat) : r ≤ wes s g r := by
 unfold wes
 split
 ·exact Nat.le_refl _
 ·rename_i h
  have := estep_ge (s := s) (q := r + 1) (g := g) qo
  omega
theorem wes_gt {s : ByteArray} {g : Bool} {r : Nat} (h : ¬ estep s g (r + 1) < 0) : r < wes s g r := by
 unfold wes
 rw [if_neg h]
 have := estep_ge (s := s) (q := r + 1) (g := g) qo
 omega
theorem wes_le {s : ByteArray} {g : Bool} {r : Nat} (h : r ≤ s.size) : wes s g r ≤ s.size := by
 unfold wes
 split
 ·exact h
 ·have := estep_lt s (r + 1) g; omega
theorem itr_wes_ge (s : ByteArray) (g : Bool) (r n : Nat) : r ≤ itr (wes s g) n r := by
 induction n with
 | zero => exact Nat.le_refl _
 | succ n ih => exact Nat.le_trans ih (wes_ge s g _)
theorem itr_wes_le {s : ByteArray} {g : Bool} {r : Nat} (h : r ≤ s.size) (n : Nat) : itr (wes s g) n r ≤ s.size := by
 induction n with
 | zero => exact h
 | succ n ih => exact wes_le ih
theorem itr_succ' (f : Nat → Nat) (n r : Nat) : itr f (n + 1) r = itr f n (f r) := by
 induction n with
 | zero => rfl
 | succ n ih =>
  show f (itr f (n + 1) r) = f (itr f n (f r))
  rw [ih]
theorem itr_fix {f : Nat → Nat} {r : Nat} (h : f r = r) (n : Nat) : itr f n r = r := by
 induction n with
 | zero => rfl
 | succ n ih => show f (itr f n r) = r; rw [ih, h]
theorem eitr_itr (s : ByteArray) (g : Bool) (r n : Nat) : eitr s g n (r : Int) = ((itr (wes s g) n r : Nat) : Int) := by
 induction n with
 | zero => rfl
 | succ n ih =>
  show (if estep s g (eitr s g n r + 1).toNat < 0 then eitr s g n r else estep s g (eitr s g n r + 1).toNat) = ((wes s g (itr (wes s g) n r) : Nat) : Int)
  rw [ih]
  have e : (((itr (wes s g) n r : Nat) : Int) + 1).toNat = itr (wes s g) n r + 1 := by omega
  rw [e]
  unfold wes
  split
  ·rfl
  ·omega
theorem endWay_itr (s : ByteArray) (g : Bool) (p n : Nat) (hn : 1 ≤ n) : (endWay s g n p).2.2 = (((itr (wes s g) n p : Nat) : Int) == (p : Int)) ∧ ((endWay s g n p).2.2 = false → (endWay s g n p).1 = ((itr (wes s g) n p : Nat) : Int) ∧ (endWay s g n p).2.1 = 1) := by
 have e : ((p : Int) + 1).toNat = p + 1 := by omega
 obtain ⟨k, rfl⟩ : ∃ k, n = k + 1 := ⟨n - 1, by omega⟩
 unfold endWay
 rw [e]
 by_cases h : estep s g (p + 1) < 0
 ·rw [if_pos h]
  have h1 : wes s g p = p := by unfold wes; rw [if_pos h]
  rw [itr_fix h1]
  simp
 ·rw [if_neg h]
  have h1 := wes_gt h
  have h2 := itr_wes_ge s g (wes s g p) k
  rw [← itr_succ'] at h2
  rw [eitr_itr]
  refine ⟨?_, fun _ => ⟨rfl, rfl⟩⟩
  have : (((itr (wes s g) (k + 1) p : Nat) : Int) == (p : Int)) = false := by simp; omega
  rw [this]
theorem wes_eq {s : ByteArray} {g : Bool} {r : Nat} (h : r < s.size) : wes s g r = if up (sp s) s.size (r + 1) = s.size then r else wrun s (up (sp s) s.size (r + 1)) g - 1 := by
 have hle : up (sp s) s.size (r + 1) ≤ s.size := up_le qo
 unfold wes estep
 by_cases hq : up (sp s) s.size (r + 1) < s.size
 ·rw [if_pos hq, if_neg (by omega : ¬ up (sp s) s.size (r + 1) = s.size)]
  generalize up (sp s) s.size (r + 1) = q at *
  have h1 : wrun s q g = up (like s q g) s.size (q + 1) := up_step hq (like_self s q g)
  have h2 : q + 1 ≤ up (like s q g) s.size (q + 1) := up_ge (like s q g) s.size (q + 1)
  rw [h1, if_neg qo]
  omega
 ·rw [if_neg hq, if_pos qo, if_pos qo]
theorem wes_end {s : ByteArray} {g : Bool} : wes s g s.size = s.size := by
 unfold wes estep
 have h1 : s.size + 1 ≤ up (sp s) s.size (s.size + 1) := up_ge _ _ _
 have h2 : ¬ up (sp s) s.size (s.size + 1) < s.size := by omega
 simp [h2]
theorem emp_in {s : ByteArray} {j i : Nat} (hj : j < lns s) (h1 : att s j ≤ i) (h2 : i ≤ fin s (att s j)) (h : att s j < fin s (att s j)) : emp s i = false := by
 have hf := fin_le (att_in hj).1
 by_cases he : i = fin s (att s j)
 ·rw [he]; exact emp_fin hj h
 ·exact emp_no qo (fin_no h1 qo)
theorem bgap_go {s : ByteArray} {i : Nat} (h : spc (bt s i) = true) (he : emp s i = false) : dn (bgap s) i = dn (bgap s) (i - 1) := by
 cases i with
 | zero => rfl
 | succ k => exact dn_step (by unfold bgap; rw [h, he]; rfl)
theorem bgap_ink {s : ByteArray} {i : Nat} (h : spc (bt s i) = false) : dn (bgap s) i = i := by
 cases i with
 | zero => rfl
 | succ k => exact dn_stop (by unfold bgap; rw [h]; rfl)
theorem bgap_emp {s : ByteArray} {i : Nat} (h : emp s i = true) : dn (bgap s) i = i := by
 cases i with
 | zero => rfl
 | succ k => exact dn_stop (by unfold bgap; rw [h]; simp)
theorem bstep_run {s : ByteArray} {r : Nat} {g : Bool} (h0 : 0 < r) (hr : r ≤ s.size) : bstep s g r = if bt s (bto s r) = 10 then bto s r else runB s (bto s r) g := by
 have hb := bto_le s r
 have hend : 0 < bto s r → bgap s (bto s r - 1) = false := fun h => dn_end h
 unfold bstep
 rw [if_neg qo]
 generalize bto s r = B at *
 by_cases h10 : bt s B = 10
 ·rw [if_pos h10]
  have : cls (bt s B) g < 2 := cls_spc (by rw [h10]; rfl)
  rw [if_pos this]
 ·rw [if_neg h10]
  by_cases hc : cls (bt s B) g < 2
  ·rw [if_pos hc]
   by_cases hz : B = 0
   ·subst hz; rfl
   ·exfalso
    have h1 := hend qo
    unfold bgap at h1
    rw [show B - 1 + 1 = B by omega] at h1
    have h2 : spc (bt s B) = true := by
     cases hs : spc (bt s B) with
     | true => rfl
     | false => have := cls_nsp (g := g) hs; omega
    rw [h2, Bool.true_and] at h1
    have h3 : emp s B = true := by cases he : emp s B with
     | true => rfl
     | false => rw [he] at h1; simp at h1
    have hn : nl s B = false := by unfold nl; simp [h10]
    rw [emp_no qo hn] at h3
    exact absurd h3 qi
  ·rw [if_neg hc]; rfl
theorem bstep_lt {s : ByteArray} {r : Nat} {g : Bool} (h : 0 < r) : bstep s g r < r := by
 have hb := bto_le s r
 unfold bstep
 rw [if_neg qo]
 split
 ·omega
 ·have := dn_le (like s (bto s r) g) (bto s r); omega
theorem wayB_eq (s : ByteArray) (p n : Nat) (g : Bool) (hn : 1 ≤ n) : (((itr (bstep s g) n p : Nat) : Int) == (p : Int)) = ((p : Int) == 0) := by
 obtain ⟨k, rfl⟩ : ∃ k, n = k + 1 := ⟨n - 1, by omega⟩
 rw [Bool.eq_iff_iff]
 simp only [beq_iff_eq]
 by_cases hp : p = 0
 ·subst hp
  have : bstep s g 0 = 0 := by unfold bstep; rw [if_pos rfl]
  rw [itr_fix this]; simp
 ·have h1 := bstep_lt (s := s) (g := g) (show 0 < p by omega)
  have h2 := itr_b_le (s := s) (p := bstep s g p) (g := g) k
  rw [← itr_succ'] at h2
  constructor <;> intro h <;> omega
def isPlain (key : Int) : Bool := key == 104 || key == 108 || key == 48 || key == 94 || key == 36 || key == 106 || key == 107 || key == 71 || key == 119 || key == 87 || key == 98 || key == 66 || key == 101 || key == 69 || key == 125 || key == 123 || key == 37
def isMk (c : Int) : Bool := c == 118 || c == 86
structure Row1 (c : Int) : Prop where
 verbs : mem kVerbs c = false
 n34 : c ≠ 34
 n114 : c ≠ 114
 n18 : c ≠ 18
 n105 : c ≠ 105
 n97 : c ≠ 97
 n117 : c ≠ 117
 n85 : c ≠ 85
 other : mem kOther c = isMk c
 mark : mem kMark c = isMk c
 find : mem kFind c = isFind c
 ways : mem kWays c = (isPlain c || c == 59 || c == 44)
def Beg (keys : ByteArray) (n : Nat) (part : Int) : Prop :=
 (AllNum keys n ∧ part = 0) ∨ ∃ (ds : ByteArray) (c : UInt8), keys = ds ++ ⟨#[c]⟩ ∧ AllNum ds n ∧ part = c.toNat ∧ (isFind c.toNat = true ∨ (c.toNat : Int) = 103)
theorem Beg.num {keys : ByteArray} {n : Nat} (h : Beg keys n 0) : AllNum keys n := by
 rcases h with h | ⟨ds, c, _, h, h1, h2⟩
 ·exact h.1
 ·simp only [isFind, Bool.or_eq_true, beq_iff_eq] at h2; omega
section
variable {keys : ByteArray} {n : Nat} {u : UInt8} (m : Bool)
end
theorem frs_le {s : ByteArray} {p : Nat} (h : p ≤ s.size) : frs s p ≤ s.size := by
  have h1 := lst_le h
  have h2 := beg_le s p
  have h3 := fin_le h
  have h4 := fin_ge s p
  unfold frs
  first
    | (split
       · omega
       · exact up_le qo)
    | (have := up_le (c := fun i => blk (bt s i)) (n := fin s p) (p := beg s p) qo; (repeat' split) <;> omega)
theorem wayH_in {s : ByteArray} {p n : Nat} (hp : p ≤ s.size) : 0 ≤ (wayH s p n).1 ∧ (wayH s p n).1 ≤ s.size := by
 have := beg_le s p
 simp only [wayH]; split <;> omega
theorem wayL_in {s : ByteArray} {p n : Nat} (hp : p ≤ s.size) : 0 ≤ (wayL s p n false).1 ∧ (wayL s p n false).1 ≤ s.size := by
 have := lst_le hp
 simp only [wayL, mostL, Bool.false_eq_true, if_false]; split <;> omega
theorem wayEol_in {s : ByteArray} {p n : Nat} (hn : 1 ≤ n) : 0 ≤ (wayEol s p n).1 ∧ (wayEol s p n).1 ≤ s.size := by
 simp only [wayEol]; split
 ·omega
 ·have := lst_le (att_in (s := s) (m := lin s p + n - 1) qo).1
  omega
theorem lineTo_in {s : ByteArray} {p : Nat} (m : Int) : 0 ≤ (lineTo s p m).1 ∧ (lineTo s p m).1 ≤ s.size := by
 have := beg_le s p
 simp only [lineTo]; split
 ·omega
 ·have := lst_le (att_in (s := s) (m := m.toNat) qo).1
  simp only
  split <;> omega
theorem lineNo_in {s : ByteArray} (m : Int) : 0 ≤ (lineNo s m).1 ∧ (lineNo s m).1 ≤ s.size := by
 have h1 := lns_pos s
 have := frs_le (att_in (s := s) (m := (if (lns s : Int) ≤ m then (lns s : Int) - 1 else m).toNat) (by split <;> omega)).1
 simp only [lineNo]; omega
theorem lineWay_in {s : ByteArray} {p : Nat} (key : Int) (n : Nat) (given : Bool) : 0 ≤ (lineWay s p key n given).1 ∧ (lineWay s p key n given).1 ≤ s.size := by
 unfold lineWay
 split
 ·exact lineTo_in _
 ·split
  ·exact lineTo_in _
  ·exact lineNo_in _
theorem clm_in {s : ByteArray} {p : Nat} (h : p ≤ s.size) : clm s p ≤ s.size := Nat.le_trans (clm_le s p) h
theorem eitr_pos {s : ByteArray} {r : Int} {g : Bool} (h0 : 0 ≤ r) (n : Nat) : 0 ≤ eitr s g n r := by
 induction n with
 | zero => exact h0
 | succ n ih => simp only [eitr]; split <;> omega
theorem endWay_in {s : ByteArray} {p n : Nat} (g : Bool) (hp : p ≤ s.size) : 0 ≤ (endWay s g n p).1 ∧ (endWay s g n p).1 ≤ s.size := by
 unfold endWay; split
 ·simp only; omega
 ·have := eitr_lt (s := s) (r := p) (g := g) qo qo n
  have := eitr_pos (s := s) (r := p) (g := g) qo n
  simp only; omega
theorem byteWay_in {s : ByteArray} {p n f : Nat} (key c : Int) (hp : p ≤ s.size) (hf : 1 ≤ f) : 0 ≤ (byteWay s p key c n f).1 ∧ (byteWay s p key c n f).1 ≤ s.size := by
 have h3 := fin_le hp
 have hU : ∀ d, -1 ≤ d → d ≤ 0 → 0 ≤ (resU d (fndU s c (fin s p) (fin s p - (p + f)) n (p + f))).1 ∧ (resU d (fndU s c (fin s p) (fin s p - (p + f)) n (p + f))).1 ≤ s.size := by
  intro d h1 h2
  cases hh : fndU s c (fin s p) (fin s p - (p + f)) n (p + f) with
  | none => simp only [resU]; omega
  | some q => have := fndU_lt _ _ _ _ hh; simp only [resU]; omega
 have hD : ∀ d, 0 ≤ d → d ≤ 1 → 0 ≤ (resD d (fndD s c (beg s p) n (p + 1 - f))).1 ∧ (resD d (fndD s c (beg s p) n (p + 1 - f))).1 ≤ s.size := by
  intro d h1 h2
  cases hh : fndD s c (beg s p) n (p + 1 - f) with
  | none => simp only [resD]; omega
  | some q => have := fndD_lt _ _ _ hh; simp only [resD]; omega
 unfold byteWay
 split
 ·exact hU 0 qo qo
 ·split
  ·exact hU (-1) qo qo
  ·split
   ·exact hD 0 qo qo
   ·exact hD 1 qo qo
theorem pairWay_in {s : ByteArray} {p : Nat} (hp : p ≤ s.size) (h : (pairWay s p).2.2 = false) : 0 ≤ (pairWay s p).1 ∧ (pairWay s p).1 ≤ s.size := by
 have h3 := fin_le hp
 revert h
 unfold pairWay
 split
 ·intro h
  have := mtch_lt (s := s) (p := up (nobr s) (fin s p) p) qo
  simp only [decide_eq_false_iff_not] at h
  simp only; omega
 ·simp only; intro h; exact Bool.noConfusion h
theorem frm_pos (key : Int) (b : Bool) : 1 ≤ frm key b := by unfold frm; split <;> omega
theorem goWay_in {s : ByteArray} {p n : Nat} (key c : Int) (given b : Bool) (hp : p ≤ s.size) (hn : 1 ≤ n) (h : (goWay s p key c n given false b).2.2 = false) :
  0 ≤ (goWay s p key c n given false b).1 ∧ (goWay s p key c n given false b).1 ≤ s.size := by
 revert h
 unfold goWay
 (repeat' split) <;> intro h
 ·exact wayH_in hp
 ·exact wayL_in hp
 ·have := beg_le s p; simp only; omega
 ·have := frs_le hp; simp only; omega
 ·exact wayEol_in hn
 ·exact lineWay_in _ _ _
 ·have := clm_in (itr_w_le (g := key == 87) hp n); simp only [wordQ, Bool.false_eq_true, if_false]; omega
 ·have := itr_b_le (s := s) (p := p) (g := key == 66) n; simp only [wayB]; omega
 ·exact endWay_in _ hp
 ·exact byteWay_in _ _ hp (frm_pos _ _)
 ·have := clm_in (itr_p_le (down := key == 125) hp n); simp only [parQ, Bool.false_eq_true, if_false]; omega
 ·exact pairWay_in hp h
theorem beg_same {s : ByteArray} {q x : Nat} (h1 : beg s q ≤ x) (h2 : x ≤ q) : beg s x = beg s q := by
 unfold beg
 refine dn_eq h1 ?_ ?_
 ·intro i hi1 hi2
  have := beg_no (s := s) (p := q) (i := i) hi1 qo
  simp [this]
 ·intro h
  have := beg_nl (s := s) (p := q) h
  simp only [beg] at this
  simp [this]
theorem fin_same {s : ByteArray} {q x : Nat} (hq : q ≤ s.size) (h1 : beg s q ≤ x) (h2 : x ≤ q) : fin s x = fin s q := by
 have hf := fin_ge s q
 have hl := fin_le hq
 refine up_eq qo hl ?_ ?_
 ·intro i hi1 hi2
  by_cases h : i < q
  ·simp [beg_no (s := s) (p := q) (i := i) qo h]
  ·simp [fin_no (s := s) (p := q) (i := i) qo hi2]
 ·intro h
  simp [fin_nl h]
theorem clm_settled {s : ByteArray} {q : Nat} (hq : q ≤ s.size) : clm s q ≤ lst s (clm s q) := by
 unfold clm
 split
 ·rename_i h
  have hi := lst_in hq
  have e1 := beg_same (s := s) (q := q) (x := lst s q) hi.1 qo
  have e2 := fin_same (s := s) (q := q) (x := lst s q) hq hi.1 qo
  have e3 : lst s (lst s q) = lst s q := by
   rw [lst, e1, e2]
   rfl
  omega
 ·omega
theorem zero_settled (s : ByteArray) : 0 ≤ lst s 0 := Nat.zero_le _
def Takes (s : ByteArray) (p : Nat) (r : Int × Int × Bool) : Prop :=
 ∃ q : Nat, r.1 = q ∧ q ≤ s.size ∧ (r.2.1 = 0 ∨ (r.2.1 = 1 ∧ p < s.size ∧ q < s.size) ∨ r.2.1 = 2)
theorem Takes.out {s : ByteArray} {p : Nat} {r : Int × Int × Bool} (h : 0 ≤ r.1 ∧ r.1 ≤ s.size) (k : r.2.1 = 0 ∨ r.2.1 = 2) : Takes s p r :=
 ⟨r.1.toNat, by omega, by omega, by omega⟩
theorem wayL_t {s : ByteArray} {p n : Nat} (hp : p ≤ s.size) : 0 ≤ (wayL s p n true).1 ∧ (wayL s p n true).1 ≤ s.size := by
 have := fin_le hp
 simp only [wayL, mostL, if_true]; split <;> omega
theorem eol_takes {s : ByteArray} {p n : Nat} (hp : p ≤ s.size) (hl : p ≤ lst s p) (hn : 1 ≤ n) (h : (wayEol s p n).2.2 = false) : Takes s p (wayEol s p n) := by
 have hI := wayEol_in (s := s) (p := p) hn
 revert h hI
 unfold wayEol
 split
 ·intro h; simp at h
 ·rename_i hm
  intro _ hI
  have hm' : lin s p + n - 1 < lns s := by omega
  have ha := att_in hm'
  have hle := lin_lst hm'
  have hll := lst_line hm'
  have hfl := fin_le ha.1
  simp only at hI
  refine ⟨lst s (att s (lin s p + n - 1)), rfl, by omega, ?_⟩
  cases he : emp s (lst s (att s (lin s p + n - 1))) with
  | true => left; simp
  | false =>
   right; left
   have e2 := emp_lst hm'
   rw [he] at e2
   have hne : ¬ ((att s (lin s p + n - 1) : Nat) : Int) = ((fin s (att s (lin s p + n - 1)) : Nat) : Int) := by
    intro h; rw [h] at e2; simp at e2
   have hge := fin_ge s (att s (lin s p + n - 1))
   rw [if_pos qo] at hll
   refine ⟨by simp, ?_, by omega⟩
   by_cases h1 : n = 1
   ·subst h1
    have hq : lst s p = lst s (att s (lin s p)) := by
     have i1 := lst_max s p
     have i2 := lst_max s (att s (lin s p))
     rw [beg_att (lin_lt hp), ← fin_eq hp] at i2
     rw [beg_eq hp] at i1
     omega
    rw [Nat.add_sub_cancel] at hll hge hfl hne
    omega
   ·have : ¬ lst s (att s (lin s p + n - 1)) ≤ p := by
     intro hc
     have := lin_mono (s := s) hc
     omega
    omega
theorem end_takes {s : ByteArray} {p n : Nat} (g : Bool) (hp : p ≤ s.size) (h : (endWay s g n p).2.2 = false) : Takes s p (endWay s g n p) := by
 revert h
 unfold endWay
 split
 ·intro h; simp at h
 ·rename_i hm
  intro _
  have h1 := estep_ge (s := s) (q := ((p : Int) + 1).toNat) (g := g) qo
  have h2 := estep_lt s ((p : Int) + 1).toNat g
  have h3 : ∀ k, eitr s g k p < s.size := by
   intro k
   induction k with
   | zero => simp only [eitr]; omega
   | succ k ih => simp only [eitr]; have := estep_lt s (eitr s g k p + 1).toNat g; split <;> omega
  have h4 := h3 n
  have h5 := eitr_pos (s := s) (r := p) (g := g) qo n
  exact ⟨(eitr s g n p).toNat, by simp only; omega, by omega, Or.inr (Or.inl ⟨rfl, by omega, by omega⟩)⟩
theorem byte_takes {s : ByteArray} {p n f : Nat} (key c : Int) (hp : p ≤ s.size) (hf : 1 ≤ f) (h : (byteWay s p key c n f).2.2 = false) : Takes s p (byteWay s p key c n f) := by
 have h3 := fin_le hp
 have hU : ∀ d, -1 ≤ d → d ≤ 0 → (resU d (fndU s c (fin s p) (fin s p - (p + f)) n (p + f))).2.2 = false → Takes s p (resU d (fndU s c (fin s p) (fin s p - (p + f)) n (p + f))) := by
  intro d h1 h2
  cases hh : fndU s c (fin s p) (fin s p - (p + f)) n (p + f) with
  | none => intro h; simp [resU] at h
  | some q =>
   intro _
   have := fndU_lt _ _ _ _ hh
   exact ⟨((q : Int) + d).toNat, by simp only [resU]; omega, by omega, Or.inr (Or.inl ⟨rfl, by omega, by omega⟩)⟩
 have hD : ∀ d, 0 ≤ d → d ≤ 1 → (resD d (fndD s c (beg s p) n (p + 1 - f))).2.2 = false → Takes s p (resD d (fndD s c (beg s p) n (p + 1 - f))) := by
  intro d h1 h2
  cases hh : fndD s c (beg s p) n (p + 1 - f) with
  | none => intro h; simp [resD] at h
  | some q =>
   intro _
   have := fndD_lt _ _ _ hh
   exact ⟨((q : Int) + d).toNat, by simp only [resD]; omega, by omega, Or.inl rfl⟩
 revert h
 unfold byteWay
 split
 ·exact hU 0 qo qo
 ·split
  ·exact hU (-1) qo qo
  ·split
   ·exact hD 0 qo qo
   ·exact hD 1 qo qo
theorem pair_takes {s : ByteArray} {p : Nat} (hp : p ≤ s.size) (h : (pairWay s p).2.2 = false) : Takes s p (pairWay s p) := by
 have h3 := fin_le hp
 have hu := up_ge (nobr s) (fin s p) p
 revert h
 unfold pairWay
 split
 ·intro h
  have := mtch_lt (s := s) (p := up (nobr s) (fin s p) p) qo
  simp only [decide_eq_false_iff_not] at h
  exact ⟨(mtch s (up (nobr s) (fin s p) p)).toNat, by simp only; omega, by omega, Or.inr (Or.inl ⟨rfl, by omega, by omega⟩)⟩
 ·simp only; intro h; exact Bool.noConfusion h
theorem lineWay_kind {s : ByteArray} {p : Nat} (key : Int) (n : Nat) (given : Bool) : (lineWay s p key n given).2.1 = 0 ∨ (lineWay s p key n given).2.1 = 2 := by
 have h1 : ∀ m, (lineTo s p m).2.1 = 0 ∨ (lineTo s p m).2.1 = 2 := by intro m; unfold lineTo; split <;> simp
 have h2 : ∀ m, (lineNo s m).2.1 = 0 ∨ (lineNo s m).2.1 = 2 := by intro m; unfold lineNo; simp
 unfold lineWay
 split
 ·exact h1 _
 ·split
  ·exact h1 _
  ·exact h2 _
theorem goWay_takes {s : ByteArray} {p n : Nat} (key c : Int) (given b : Bool) (hp : p ≤ s.size) (hl : p ≤ lst s p) (hn : 1 ≤ n) (h : (goWay s p key c n given true b).2.2 = false) : Takes s p (goWay s p key c n given true b) := by
 revert h
 unfold goWay
 (repeat' split) <;> intro h
 ·exact Takes.out (wayH_in hp) (Or.inl rfl)
 ·exact Takes.out (wayL_t hp) (Or.inl rfl)
 ·exact Takes.out (by have := beg_le s p; simp only; omega) (Or.inl rfl)
 ·exact Takes.out (by have := frs_le hp; simp only; omega) (Or.inl rfl)
 ·exact eol_takes hp hl hn h
 ·exact Takes.out (lineWay_in _ _ _) (lineWay_kind _ _ _)
 ·refine Takes.out ?_ (Or.inl rfl)
  have h1 := itr_w_le (g := key == 87) hp n
  have h2 := fin_le (itr_w_le (g := key == 87) hp (n - 1))
  simp only [wordQ, if_true]
  split <;> omega
 ·exact Takes.out (by have := itr_b_le (s := s) (p := p) (g := key == 66) n; simp only [wayB]; omega) (Or.inl rfl)
 ·exact end_takes _ hp h
 ·exact byte_takes _ _ hp (frm_pos _ _) h
 ·exact Takes.out (by have := itr_p_le (down := key == 125) hp n; simp only [parQ, if_true]; omega) (Or.inl rfl)
 ·exact pair_takes hp h
theorem mtD_other {s : ByteArray} {a b : Int} (hab : a ≠ b) : ∀ (j : Nat) (n : Int), 0 ≤ n → (1 ≤ n ∨ (1 ≤ j ∧ bt s (j - 1) = a)) → 0 ≤ mtD s a b n j → bt s (mtD s a b n j).toNat = b := by
 intro j
 induction j with
 | zero => intro n _ _ h; simp only [mtD] at h; omega
 | succ j ih =>
  intro n hn ho h
  simp only [mtD] at h ⊢
  by_cases hA : bt s j = a
  ·have hB : bt s j ≠ b := fun e => hab (hA.symm.trans e)
   have e : dep s a b n j = n + 1 := by unfold dep; rw [if_pos hA, if_neg hB]; omega
   rw [e, if_neg qo] at h ⊢
   exact ih _ qo (Or.inl qo) h
  ·have hn1 : 1 ≤ n := by
    rcases ho with h | h
    ·exact h
    ·exact absurd h.2 hA
   by_cases hB : bt s j = b
   ·have e : dep s a b n j = n - 1 := by unfold dep; rw [if_neg hA, if_pos hB]; omega
    rw [e] at h ⊢
    by_cases h1 : n = 1
    ·rw [if_pos qo]; simpa using hB
    ·rw [if_neg qo] at h ⊢
     exact ih _ qo (Or.inl qo) h
   ·have e : dep s a b n j = n := by unfold dep; rw [if_neg hA, if_neg hB]; omega
    rw [e, if_neg qo] at h ⊢
    exact ih _ hn (Or.inl hn1) h
theorem mtU_ge {s : ByteArray} {a b : Int} : ∀ (f : Nat) (n : Int) (i : Nat), 0 ≤ mtU s a b f n i → (i : Int) ≤ mtU s a b f n i := by
 intro f
 induction f with
 | zero => intro n i h; simp only [mtU] at h; omega
 | succ f ih =>
  intro n i h
  simp only [mtU] at h ⊢
  split at h
  ·rename_i hi
   rw [if_pos hi]
   split at h
   ·rename_i hd; rw [if_pos hd]; omega
   ·rename_i hd; rw [if_neg hd]; have := ih _ _ h; omega
  ·omega
theorem mtch_gt {s : ByteArray} {p : Nat} (hp : p < s.size) (ho : opn (bt s p) = true) (h : 0 ≤ mtch s p) : (p : Int) < mtch s p := by
 unfold mtch at h ⊢
 rw [if_pos ho] at h ⊢
 have hne : bt s p ≠ prt (bt s p) := by
  unfold opn at ho
  simp only [Bool.or_eq_true, beq_iff_eq] at ho
  rcases ho with (ho | ho) | ho <;> rw [ho] <;> decide
 obtain ⟨f, hf⟩ : ∃ f, s.size - p = f + 1 := ⟨s.size - p - 1, by omega⟩
 rw [hf] at h ⊢
 simp only [mtU] at h ⊢
 have e : dep s (bt s p) (prt (bt s p)) 0 p = 1 := by unfold dep; rw [if_pos rfl, if_neg hne]; omega
 rw [if_pos hp, e, if_neg qd] at h ⊢
 have := mtU_ge _ _ _ h
 omega
end Go.Proofs.YtlendfhehhacpaaGreat.Nib
