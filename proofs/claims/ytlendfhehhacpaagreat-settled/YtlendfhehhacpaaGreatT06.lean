/- A part. -/
import Derived.Test.YtlendfhehhacpaaGreatT02
import Derived.Lib.DecodeN
import Derived.Laws.RangeAny
set_option linter.unusedVariables false
set_option linter.unusedSimpArgs false
set_option maxRecDepth 100000
set_option maxHeartbeats 8000000
namespace Go.Proofs.YtlendfhehhacpaaGreat.Nib
structure Cmd where
 more : Bool
 bad : Bool
 reg : Int
 n : Int
 given : Bool
 verb : Int
 twice : Bool
 object : Int
 around : Bool
 way : Int
 other : Int
 c : Int
def cMore : Cmd := ⟨true, false, 0, 0, false, 0, false, 0, false, 0, 0, 0⟩
def cBad : Cmd := ⟨false, true, 0, 0, false, 0, false, 0, false, 0, 0, 0⟩
def mem (s : ByteArray) (c : Int) : Bool := decide (up (fun i => bt s i != c) s.size 0 < s.size)
def isDig (s : ByteArray) (n a : Nat) : Bool := decide ((49 ≤ bt s a ∧ bt s a ≤ 57) ∨ (bt s a = 48 ∧ 0 < n))
def numF (s : ByteArray) : Nat → Nat → Nat → Nat × Nat
 | 0, n, a => (n, a)
 | f + 1, n, a => if a < s.size ∧ isDig s n a = true then numF s f (if 99 < n * 10 + (bt s a - 48).toNat then 99 else n * 10 + (bt s a - 48).toNat) (a + 1) else (n, a)
def num (s : ByteArray) (a : Nat) : Nat × Nat := numF s (s.size - a) 0 a
def kWays : ByteArray := ⟨#[104, 106, 107, 108, 48, 94, 36, 71, 119, 87, 98, 66, 101, 69, 59, 44, 123, 125, 37]⟩
def kFind : ByteArray := ⟨#[102, 116, 70, 84]⟩
def kObjs : ByteArray := ⟨#[119, 87, 40, 41, 91, 93, 123, 125, 34, 39, 112]⟩
def kVerbs : ByteArray := ⟨#[100, 99, 121, 60, 62]⟩
def kOther : ByteArray := ⟨#[120, 88, 68, 67, 115, 83, 89, 112, 80, 74, 126, 105, 73, 97, 65, 111, 79, 118, 86, 117, 46]⟩
def kMark : ByteArray := ⟨#[100, 120, 99, 115, 121, 60, 62, 117, 85, 111, 118, 86]⟩
def cW (x : Cmd) (c : Int) : Cmd := { x with way := c }
def cWC (x : Cmd) (c b : Int) : Cmd := { x with way := c, c := b }
def cOb (x : Cmd) (o : Int) (a : Bool) : Cmd := { x with object := o, around := a }
def cO (x : Cmd) (c : Int) : Cmd := { x with other := c }
def cOC (x : Cmd) (c b : Int) : Cmd := { x with other := c, c := b }
def cV (x : Cmd) (v : Int) : Cmd := { x with verb := v }
def cVN (x : Cmd) (v n : Int) : Cmd := { x with verb := v, n := n, given := true }
def cT (x : Cmd) : Cmd := { x with twice := true }
def rdWay (x : Cmd) (c : Int) (rest : ByteArray) : Cmd :=
 if mem kWays c = true then cW x c
 else if mem kFind c = true then (if rest.size = 0 then cMore else cWC x c (bt rest 0))
 else if c = 103 then (if rest.size = 0 then cMore else if bt rest 0 = 103 then cW x c else cBad)
 else cBad
def rdObject (x : Cmd) (c : Int) (rest : ByteArray) : Cmd :=
 if rest.size = 0 then cMore else if mem kObjs (bt rest 0) = true then cOb x (bt rest 0) (c == 97) else cBad
def rdMarked (x : Cmd) (c : Int) (rest : ByteArray) : Cmd :=
 if c = 105 ∨ c = 97 then rdObject x c rest else if mem kMark c = true then cO x c else rdWay x c rest
def rdCount (x : Cmd) (verb : Int) (k : Nat) : Cmd :=
 if 0 < k then cVN x verb (if 99 < x.n * k then 99 else x.n * k) else cV x verb
def rdVerb (x : Cmd) (verb last : Int) (rest : ByteArray) : Cmd :=
 if (num rest 0).2 = rest.size then cMore
 else if bt rest (num rest 0).2 = last then cT (rdCount x verb (num rest 0).1)
 else if bt rest (num rest 0).2 = 105 ∨ bt rest (num rest 0).2 = 97 then rdObject (rdCount x verb (num rest 0).1) (bt rest (num rest 0).2) (rest.extract ((num rest 0).2 + 1) rest.size)
 else rdWay (rdCount x verb (num rest 0).1) (bt rest (num rest 0).2) (rest.extract ((num rest 0).2 + 1) rest.size)
def slotN (c : Int) : Int := if c = 34 then 26 else if 97 ≤ c ∧ c ≤ 122 then c - 97 else -1
def cMk (reg n : Int) (given : Bool) : Cmd := ⟨false, false, reg, n, given, 0, false, 0, false, 0, 0, 0⟩
def cHead (reg : Int) (k : Nat) : Cmd := cMk reg (if 0 < k then (k : Int) else 1) (decide (0 < k))
def rdNorm (x : Cmd) (c : Int) (rest : ByteArray) : Cmd :=
 if mem kVerbs c = true then rdVerb x c c rest
 else if c = 103 ∧ 0 < rest.size ∧ (bt rest 0 = 117 ∨ bt rest 0 = 85) then rdVerb x (bt rest 0) (bt rest 0) (rest.extract 1 rest.size)
 else if c = 114 then (if rest.size = 0 then cMore else cOC x c (bt rest 0))
 else if mem kOther c = true ∨ c = 18 then cO x c
 else rdWay x c rest
def rdBody (x : Cmd) (marked : Bool) (c : Int) (rest : ByteArray) : Cmd := if marked = true then rdMarked x c rest else rdNorm x c rest
def rdFrom (s : ByteArray) (marked : Bool) (reg : Int) (a : Nat) : Cmd :=
 if (num s a).2 = s.size then cMore else rdBody (cHead reg (num s a).1) marked (bt s (num s a).2) (s.extract ((num s a).2 + 1) s.size)
def rd (s : ByteArray) (marked : Bool) : Cmd :=
 if bt s 0 = 34 then (if s.size = 1 then cMore else if slotN (bt s 1) < 0 then cBad else rdFrom s marked (slotN (bt s 1)) 2) else rdFrom s marked (-1) 0
def isFind (key : Int) : Bool := key == 102 || key == 116 || key == 70 || key == 84
def flp (key : Int) : Int := if key = 102 then 70 else if key = 70 then 102 else if key = 116 then 84 else if key = 84 then 116 else key
def isD (n : Nat) (c : Int) : Bool := decide ((49 ≤ c ∧ c ≤ 57) ∨ (c = 48 ∧ 0 < n))
def nextN (n : Nat) (c : Int) : Nat := if 99 < n * 10 + (c - 48).toNat then 99 else n * 10 + (c - 48).toNat
def wes (s : ByteArray) (g : Bool) (r : Nat) : Nat := if estep s g (r + 1) < 0 then r else (estep s g (r + 1)).toNat
theorem wes_ge (s : ByteArray) (g : Bool) (r : Nat) : r ≤ wes s g r := by
 unfold wes
 split
 ·exact Nat.le_refl _
 ·rename_i h
  have := estep_ge (s := s) (q := r + 1) (g := g) qo
  omega
theorem wes_gt {s : ByteArray} {g : Bool} {r : Nat} (h : ¬ estep s g (r + 1) < 0) : r < wes s g r := by
 unfold wes
 rw [if_neg h]
 have := estep_ge (s := s) (q := r + 1) (g := g) qo
 omega
theorem wes_le {s : ByteArray} {g : Bool} {r : Nat} (h : r ≤ s.size) : wes s g r ≤ s.size := by
 unfold wes
 split
 ·exact h
 ·have := estep_lt s (r + 1) g; omega
theorem itr_wes_ge (s : ByteArray) (g : Bool) (r n : Nat) : r ≤ itr (wes s g) n r := by
 induction n with
 | zero => exact Nat.le_refl _
 | succ n ih => exact Nat.le_trans ih (wes_ge s g _)
theorem itr_wes_le {s : ByteArray} {g : Bool} {r : Nat} (h : r ≤ s.size) (n : Nat) : itr (wes s g) n r ≤ s.size := by
 induction n with
 | zero => exact h
 | succ n ih => exact wes_le ih
theorem itr_succ' (f : Nat → Nat) (n r : Nat) : itr f (n + 1) r = itr f n (f r) := by
 induction n with
 | zero => rfl
 | succ n ih =>
  show f (itr f (n + 1) r) = f (itr f n (f r))
  rw [ih]
theorem itr_fix {f : Nat → Nat} {r : Nat} (h : f r = r) (n : Nat) : itr f n r = r := by
 induction n with
 | zero => rfl
 | succ n ih => show f (itr f n r) = r; rw [ih, h]
theorem eitr_itr (s : ByteArray) (g : Bool) (r n : Nat) : eitr s g n (r : Int) = ((itr (wes s g) n r : Nat) : Int) := by
 induction n with
 | zero => rfl
 | succ n ih =>
  show (if estep s g (eitr s g n r + 1).toNat < 0 then eitr s g n r else estep s g (eitr s g n r + 1).toNat) = ((wes s g (itr (wes s g) n r) : Nat) : Int)
  rw [ih]
  have e : (((itr (wes s g) n r : Nat) : Int) + 1).toNat = itr (wes s g) n r + 1 := by omega
  rw [e]
  unfold wes
  split
  ·rfl
  ·omega
theorem endWay_itr (s : ByteArray) (g : Bool) (p n : Nat) (hn : 1 ≤ n) : (endWay s g n p).2.2 = (((itr (wes s g) n p : Nat) : Int) == (p : Int)) ∧ ((endWay s g n p).2.2 = false → (endWay s g n p).1 = ((itr (wes s g) n p : Nat) : Int) ∧ (endWay s g n p).2.1 = 1) := by
 have e : ((p : Int) + 1).toNat = p + 1 := by omega
 obtain ⟨k, rfl⟩ : ∃ k, n = k + 1 := ⟨n - 1, by omega⟩
 unfold endWay
 rw [e]
 by_cases h : estep s g (p + 1) < 0
 ·rw [if_pos h]
  have h1 : wes s g p = p := by unfold wes; rw [if_pos h]
  rw [itr_fix h1]
  simp
 ·rw [if_neg h]
  have h1 := wes_gt h
  have h2 := itr_wes_ge s g (wes s g p) k
  rw [← itr_succ'] at h2
  rw [eitr_itr]
  refine ⟨?_, fun _ => ⟨rfl, rfl⟩⟩
  have : (((itr (wes s g) (k + 1) p : Nat) : Int) == (p : Int)) = false := by simp; omega
  rw [this]
theorem wes_eq {s : ByteArray} {g : Bool} {r : Nat} (h : r < s.size) : wes s g r = if up (sp s) s.size (r + 1) = s.size then r else wrun s (up (sp s) s.size (r + 1)) g - 1 := by
 have hle : up (sp s) s.size (r + 1) ≤ s.size := up_le qo
 unfold wes estep
 by_cases hq : up (sp s) s.size (r + 1) < s.size
 ·rw [if_pos hq, if_neg (by omega : ¬ up (sp s) s.size (r + 1) = s.size)]
  generalize up (sp s) s.size (r + 1) = q at *
  have h1 : wrun s q g = up (like s q g) s.size (q + 1) := up_step hq (like_self s q g)
  have h2 : q + 1 ≤ up (like s q g) s.size (q + 1) := up_ge (like s q g) s.size (q + 1)
  rw [h1, if_neg qo]
  omega
 ·rw [if_neg hq, if_pos qo, if_pos qo]
theorem wes_end {s : ByteArray} {g : Bool} : wes s g s.size = s.size := by
 unfold wes estep
 have h1 : s.size + 1 ≤ up (sp s) s.size (s.size + 1) := up_ge _ _ _
 have h2 : ¬ up (sp s) s.size (s.size + 1) < s.size := by omega
 simp [h2]
theorem emp_in {s : ByteArray} {j i : Nat} (hj : j < lns s) (h1 : att s j ≤ i) (h2 : i ≤ fin s (att s j)) (h : att s j < fin s (att s j)) : emp s i = false := by
 have hf := fin_le (att_in hj).1
 by_cases he : i = fin s (att s j)
 ·rw [he]; exact emp_fin hj h
 ·exact emp_no qo (fin_no h1 qo)
theorem bgap_go {s : ByteArray} {i : Nat} (h : spc (bt s i) = true) (he : emp s i = false) : dn (bgap s) i = dn (bgap s) (i - 1) := by
 cases i with
 | zero => rfl
 | succ k => exact dn_step (by unfold bgap; rw [h, he]; rfl)
theorem bgap_ink {s : ByteArray} {i : Nat} (h : spc (bt s i) = false) : dn (bgap s) i = i := by
 cases i with
 | zero => rfl
 | succ k => exact dn_stop (by unfold bgap; rw [h]; rfl)
theorem bgap_emp {s : ByteArray} {i : Nat} (h : emp s i = true) : dn (bgap s) i = i := by
 cases i with
 | zero => rfl
 | succ k => exact dn_stop (by unfold bgap; rw [h]; simp)
theorem bstep_run {s : ByteArray} {r : Nat} {g : Bool} (h0 : 0 < r) (hr : r ≤ s.size) : bstep s g r = if bt s (bto s r) = 10 then bto s r else runB s (bto s r) g := by
 have hb := bto_le s r
 have hend : 0 < bto s r → bgap s (bto s r - 1) = false := fun h => dn_end h
 unfold bstep
 rw [if_neg qo]
 generalize bto s r = B at *
 by_cases h10 : bt s B = 10
 ·rw [if_pos h10]
  have : cls (bt s B) g < 2 := cls_spc (by rw [h10]; rfl)
  rw [if_pos this]
 ·rw [if_neg h10]
  by_cases hc : cls (bt s B) g < 2
  ·rw [if_pos hc]
   by_cases hz : B = 0
   ·subst hz; rfl
   ·exfalso
    have h1 := hend qo
    unfold bgap at h1
    rw [show B - 1 + 1 = B by omega] at h1
    have h2 : spc (bt s B) = true := by
     cases hs : spc (bt s B) with
     | true => rfl
     | false => have := cls_nsp (g := g) hs; omega
    rw [h2, Bool.true_and] at h1
    have h3 : emp s B = true := by cases he : emp s B with
     | true => rfl
     | false => rw [he] at h1; simp at h1
    have hn : nl s B = false := by unfold nl; simp [h10]
    rw [emp_no qo hn] at h3
    exact absurd h3 qi
  ·rw [if_neg hc]; rfl
theorem bstep_lt {s : ByteArray} {r : Nat} {g : Bool} (h : 0 < r) : bstep s g r < r := by
 have hb := bto_le s r
 unfold bstep
 rw [if_neg qo]
 split
 ·omega
 ·have := dn_le (like s (bto s r) g) (bto s r); omega
theorem wayB_eq (s : ByteArray) (p n : Nat) (g : Bool) (hn : 1 ≤ n) : (((itr (bstep s g) n p : Nat) : Int) == (p : Int)) = ((p : Int) == 0) := by
 obtain ⟨k, rfl⟩ : ∃ k, n = k + 1 := ⟨n - 1, by omega⟩
 rw [Bool.eq_iff_iff]
 simp only [beq_iff_eq]
 by_cases hp : p = 0
 ·subst hp
  have : bstep s g 0 = 0 := by unfold bstep; rw [if_pos rfl]
  rw [itr_fix this]; simp
 ·have h1 := bstep_lt (s := s) (g := g) (show 0 < p by omega)
  have h2 := itr_b_le (s := s) (p := bstep s g p) (g := g) k
  rw [← itr_succ'] at h2
  constructor <;> intro h <;> omega
section
variable {keys : ByteArray} {n : Nat} {u : UInt8} (m : Bool)
end
theorem frs_le {s : ByteArray} {p : Nat} (h : p ≤ s.size) : frs s p ≤ s.size := by
  have h1 := lst_le h
  have h2 := beg_le s p
  have h3 := fin_le h
  have h4 := fin_ge s p
  unfold frs
  first
    | (split
       · omega
       · exact up_le qo)
    | (have := up_le (c := fun i => blk (bt s i)) (n := fin s p) (p := beg s p) qo; (repeat' split) <;> omega)
theorem wayH_in {s : ByteArray} {p n : Nat} (hp : p ≤ s.size) : 0 ≤ (wayH s p n).1 ∧ (wayH s p n).1 ≤ s.size := by
 have := beg_le s p
 simp only [wayH]; split <;> omega
theorem wayL_in {s : ByteArray} {p n : Nat} (hp : p ≤ s.size) : 0 ≤ (wayL s p n false).1 ∧ (wayL s p n false).1 ≤ s.size := by
 have := lst_le hp
 simp only [wayL, mostL, Bool.false_eq_true, if_false]; split <;> omega
theorem wayEol_in {s : ByteArray} {p n : Nat} (hn : 1 ≤ n) : 0 ≤ (wayEol s p n).1 ∧ (wayEol s p n).1 ≤ s.size := by
 simp only [wayEol]; split
 ·omega
 ·have := lst_le (att_in (s := s) (m := lin s p + n - 1) qo).1
  omega
theorem lineTo_in {s : ByteArray} {p : Nat} (m : Int) : 0 ≤ (lineTo s p m).1 ∧ (lineTo s p m).1 ≤ s.size := by
 have := beg_le s p
 simp only [lineTo]; split
 ·omega
 ·have := lst_le (att_in (s := s) (m := m.toNat) qo).1
  simp only
  split <;> omega
theorem lineNo_in {s : ByteArray} (m : Int) : 0 ≤ (lineNo s m).1 ∧ (lineNo s m).1 ≤ s.size := by
 have h1 := lns_pos s
 have := frs_le (att_in (s := s) (m := (if (lns s : Int) ≤ m then (lns s : Int) - 1 else m).toNat) (by split <;> omega)).1
 simp only [lineNo]; omega
theorem lineWay_in {s : ByteArray} {p : Nat} (key : Int) (n : Nat) (given : Bool) : 0 ≤ (lineWay s p key n given).1 ∧ (lineWay s p key n given).1 ≤ s.size := by
 unfold lineWay
 split
 ·exact lineTo_in _
 ·split
  ·exact lineTo_in _
  ·exact lineNo_in _
theorem clm_in {s : ByteArray} {p : Nat} (h : p ≤ s.size) : clm s p ≤ s.size := Nat.le_trans (clm_le s p) h
theorem eitr_pos {s : ByteArray} {r : Int} {g : Bool} (h0 : 0 ≤ r) (n : Nat) : 0 ≤ eitr s g n r := by
 induction n with
 | zero => exact h0
 | succ n ih => simp only [eitr]; split <;> omega
theorem endWay_in {s : ByteArray} {p n : Nat} (g : Bool) (hp : p ≤ s.size) : 0 ≤ (endWay s g n p).1 ∧ (endWay s g n p).1 ≤ s.size := by
 unfold endWay; split
 ·simp only; omega
 ·have := eitr_lt (s := s) (r := p) (g := g) qo qo n
  have := eitr_pos (s := s) (r := p) (g := g) qo n
  simp only; omega
theorem byteWay_in {s : ByteArray} {p n f : Nat} (key c : Int) (hp : p ≤ s.size) (hf : 1 ≤ f) : 0 ≤ (byteWay s p key c n f).1 ∧ (byteWay s p key c n f).1 ≤ s.size := by
 have h3 := fin_le hp
 have hU : ∀ d, -1 ≤ d → d ≤ 0 → 0 ≤ (resU d (fndU s c (fin s p) (fin s p - (p + f)) n (p + f))).1 ∧ (resU d (fndU s c (fin s p) (fin s p - (p + f)) n (p + f))).1 ≤ s.size := by
  intro d h1 h2
  cases hh : fndU s c (fin s p) (fin s p - (p + f)) n (p + f) with
  | none => simp only [resU]; omega
  | some q => have := fndU_lt _ _ _ _ hh; simp only [resU]; omega
 have hD : ∀ d, 0 ≤ d → d ≤ 1 → 0 ≤ (resD d (fndD s c (beg s p) n (p + 1 - f))).1 ∧ (resD d (fndD s c (beg s p) n (p + 1 - f))).1 ≤ s.size := by
  intro d h1 h2
  cases hh : fndD s c (beg s p) n (p + 1 - f) with
  | none => simp only [resD]; omega
  | some q => have := fndD_lt _ _ _ hh; simp only [resD]; omega
 unfold byteWay
 split
 ·exact hU 0 qo qo
 ·split
  ·exact hU (-1) qo qo
  ·split
   ·exact hD 0 qo qo
   ·exact hD 1 qo qo
theorem pairWay_in {s : ByteArray} {p : Nat} (hp : p ≤ s.size) (h : (pairWay s p).2.2 = false) : 0 ≤ (pairWay s p).1 ∧ (pairWay s p).1 ≤ s.size := by
 have h3 := fin_le hp
 revert h
 unfold pairWay
 split
 ·intro h
  have := mtch_lt (s := s) (p := up (nobr s) (fin s p) p) qo
  simp only [decide_eq_false_iff_not] at h
  simp only; omega
 ·simp only; intro h; exact Bool.noConfusion h
theorem frm_pos (key : Int) (b : Bool) : 1 ≤ frm key b := by unfold frm; split <;> omega
theorem goWay_in {s : ByteArray} {p n : Nat} (key c : Int) (given b : Bool) (hp : p ≤ s.size) (hn : 1 ≤ n) (h : (goWay s p key c n given false b).2.2 = false) :
  0 ≤ (goWay s p key c n given false b).1 ∧ (goWay s p key c n given false b).1 ≤ s.size := by
 revert h
 unfold goWay
 (repeat' split) <;> intro h
 ·exact wayH_in hp
 ·exact wayL_in hp
 ·have := beg_le s p; simp only; omega
 ·have := frs_le hp; simp only; omega
 ·exact wayEol_in hn
 ·exact lineWay_in _ _ _
 ·have := clm_in (itr_w_le (g := key == 87) hp n); simp only [wordQ, Bool.false_eq_true, if_false]; omega
 ·have := itr_b_le (s := s) (p := p) (g := key == 66) n; simp only [wayB]; omega
 ·exact endWay_in _ hp
 ·exact byteWay_in _ _ hp (frm_pos _ _)
 ·have := clm_in (itr_p_le (down := key == 125) hp n); simp only [parQ, Bool.false_eq_true, if_false]; omega
 ·exact pairWay_in hp h
theorem beg_same {s : ByteArray} {q x : Nat} (h1 : beg s q ≤ x) (h2 : x ≤ q) : beg s x = beg s q := by
 unfold beg
 refine dn_eq h1 ?_ ?_
 ·intro i hi1 hi2
  have := beg_no (s := s) (p := q) (i := i) hi1 qo
  simp [this]
 ·intro h
  have := beg_nl (s := s) (p := q) h
  simp only [beg] at this
  simp [this]
theorem fin_same {s : ByteArray} {q x : Nat} (hq : q ≤ s.size) (h1 : beg s q ≤ x) (h2 : x ≤ q) : fin s x = fin s q := by
 have hf := fin_ge s q
 have hl := fin_le hq
 refine up_eq qo hl ?_ ?_
 ·intro i hi1 hi2
  by_cases h : i < q
  ·simp [beg_no (s := s) (p := q) (i := i) qo h]
  ·simp [fin_no (s := s) (p := q) (i := i) qo hi2]
 ·intro h
  simp [fin_nl h]
theorem clm_settled {s : ByteArray} {q : Nat} (hq : q ≤ s.size) : clm s q ≤ lst s (clm s q) := by
 unfold clm
 split
 ·rename_i h
  have hi := lst_in hq
  have e1 := beg_same (s := s) (q := q) (x := lst s q) hi.1 qo
  have e2 := fin_same (s := s) (q := q) (x := lst s q) hq hi.1 qo
  have e3 : lst s (lst s q) = lst s q := by
   rw [lst, e1, e2]
   rfl
  omega
 ·omega
theorem zero_settled (s : ByteArray) : 0 ≤ lst s 0 := Nat.zero_le _
def Takes (s : ByteArray) (p : Nat) (r : Int × Int × Bool) : Prop :=
 ∃ q : Nat, r.1 = q ∧ q ≤ s.size ∧ (r.2.1 = 0 ∨ (r.2.1 = 1 ∧ p < s.size ∧ q < s.size) ∨ r.2.1 = 2)
theorem Takes.out {s : ByteArray} {p : Nat} {r : Int × Int × Bool} (h : 0 ≤ r.1 ∧ r.1 ≤ s.size) (k : r.2.1 = 0 ∨ r.2.1 = 2) : Takes s p r :=
 ⟨r.1.toNat, by omega, by omega, by omega⟩
theorem wayL_t {s : ByteArray} {p n : Nat} (hp : p ≤ s.size) : 0 ≤ (wayL s p n true).1 ∧ (wayL s p n true).1 ≤ s.size := by
 have := fin_le hp
 simp only [wayL, mostL, if_true]; split <;> omega
theorem eol_takes {s : ByteArray} {p n : Nat} (hp : p ≤ s.size) (hl : p ≤ lst s p) (hn : 1 ≤ n) (h : (wayEol s p n).2.2 = false) : Takes s p (wayEol s p n) := by
 have hI := wayEol_in (s := s) (p := p) hn
 revert h hI
 unfold wayEol
 split
 ·intro h; simp at h
 ·rename_i hm
  intro _ hI
  have hm' : lin s p + n - 1 < lns s := by omega
  have ha := att_in hm'
  have hle := lin_lst hm'
  have hll := lst_line hm'
  have hfl := fin_le ha.1
  simp only at hI
  refine ⟨lst s (att s (lin s p + n - 1)), rfl, by omega, ?_⟩
  cases he : emp s (lst s (att s (lin s p + n - 1))) with
  | true => left; simp
  | false =>
   right; left
   have e2 := emp_lst hm'
   rw [he] at e2
   have hne : ¬ ((att s (lin s p + n - 1) : Nat) : Int) = ((fin s (att s (lin s p + n - 1)) : Nat) : Int) := by
    intro h; rw [h] at e2; simp at e2
   have hge := fin_ge s (att s (lin s p + n - 1))
   rw [if_pos qo] at hll
   refine ⟨by simp, ?_, by omega⟩
   by_cases h1 : n = 1
   ·subst h1
    have hq : lst s p = lst s (att s (lin s p)) := by
     have i1 := lst_max s p
     have i2 := lst_max s (att s (lin s p))
     rw [beg_att (lin_lt hp), ← fin_eq hp] at i2
     rw [beg_eq hp] at i1
     omega
    rw [Nat.add_sub_cancel] at hll hge hfl hne
    omega
   ·have : ¬ lst s (att s (lin s p + n - 1)) ≤ p := by
     intro hc
     have := lin_mono (s := s) hc
     omega
    omega
theorem end_takes {s : ByteArray} {p n : Nat} (g : Bool) (hp : p ≤ s.size) (h : (endWay s g n p).2.2 = false) : Takes s p (endWay s g n p) := by
 revert h
 unfold endWay
 split
 ·intro h; simp at h
 ·rename_i hm
  intro _
  have h1 := estep_ge (s := s) (q := ((p : Int) + 1).toNat) (g := g) qo
  have h2 := estep_lt s ((p : Int) + 1).toNat g
  have h3 : ∀ k, eitr s g k p < s.size := by
   intro k
   induction k with
   | zero => simp only [eitr]; omega
   | succ k ih => simp only [eitr]; have := estep_lt s (eitr s g k p + 1).toNat g; split <;> omega
  have h4 := h3 n
  have h5 := eitr_pos (s := s) (r := p) (g := g) qo n
  exact ⟨(eitr s g n p).toNat, by simp only; omega, by omega, Or.inr (Or.inl ⟨rfl, by omega, by omega⟩)⟩
theorem byte_takes {s : ByteArray} {p n f : Nat} (key c : Int) (hp : p ≤ s.size) (hf : 1 ≤ f) (h : (byteWay s p key c n f).2.2 = false) : Takes s p (byteWay s p key c n f) := by
 have h3 := fin_le hp
 have hU : ∀ d, -1 ≤ d → d ≤ 0 → (resU d (fndU s c (fin s p) (fin s p - (p + f)) n (p + f))).2.2 = false → Takes s p (resU d (fndU s c (fin s p) (fin s p - (p + f)) n (p + f))) := by
  intro d h1 h2
  cases hh : fndU s c (fin s p) (fin s p - (p + f)) n (p + f) with
  | none => intro h; simp [resU] at h
  | some q =>
   intro _
   have := fndU_lt _ _ _ _ hh
   exact ⟨((q : Int) + d).toNat, by simp only [resU]; omega, by omega, Or.inr (Or.inl ⟨rfl, by omega, by omega⟩)⟩
 have hD : ∀ d, 0 ≤ d → d ≤ 1 → (resD d (fndD s c (beg s p) n (p + 1 - f))).2.2 = false → Takes s p (resD d (fndD s c (beg s p) n (p + 1 - f))) := by
  intro d h1 h2
  cases hh : fndD s c (beg s p) n (p + 1 - f) with
  | none => intro h; simp [resD] at h
  | some q =>
   intro _
   have := fndD_lt _ _ _ hh
   exact ⟨((q : Int) + d).toNat, by simp only [resD]; omega, by omega, Or.inl rfl⟩
 revert h
 unfold byteWay
 split
 ·exact hU 0 qo qo
 ·split
  ·exact hU (-1) qo qo
  ·split
   ·exact hD 0 qo qo
   ·exact hD 1 qo qo
theorem pair_takes {s : ByteArray} {p : Nat} (hp : p ≤ s.size) (h : (pairWay s p).2.2 = false) : Takes s p (pairWay s p) := by
 have h3 := fin_le hp
 have hu := up_ge (nobr s) (fin s p) p
 revert h
 unfold pairWay
 split
 ·intro h
  have := mtch_lt (s := s) (p := up (nobr s) (fin s p) p) qo
  simp only [decide_eq_false_iff_not] at h
  exact ⟨(mtch s (up (nobr s) (fin s p) p)).toNat, by simp only; omega, by omega, Or.inr (Or.inl ⟨rfl, by omega, by omega⟩)⟩
 ·simp only; intro h; exact Bool.noConfusion h
theorem lineWay_kind {s : ByteArray} {p : Nat} (key : Int) (n : Nat) (given : Bool) : (lineWay s p key n given).2.1 = 0 ∨ (lineWay s p key n given).2.1 = 2 := by
 have h1 : ∀ m, (lineTo s p m).2.1 = 0 ∨ (lineTo s p m).2.1 = 2 := by intro m; unfold lineTo; split <;> simp
 have h2 : ∀ m, (lineNo s m).2.1 = 0 ∨ (lineNo s m).2.1 = 2 := by intro m; unfold lineNo; simp
 unfold lineWay
 split
 ·exact h1 _
 ·split
  ·exact h1 _
  ·exact h2 _
theorem goWay_takes {s : ByteArray} {p n : Nat} (key c : Int) (given b : Bool) (hp : p ≤ s.size) (hl : p ≤ lst s p) (hn : 1 ≤ n) (h : (goWay s p key c n given true b).2.2 = false) : Takes s p (goWay s p key c n given true b) := by
 revert h
 unfold goWay
 (repeat' split) <;> intro h
 ·exact Takes.out (wayH_in hp) (Or.inl rfl)
 ·exact Takes.out (wayL_t hp) (Or.inl rfl)
 ·exact Takes.out (by have := beg_le s p; simp only; omega) (Or.inl rfl)
 ·exact Takes.out (by have := frs_le hp; simp only; omega) (Or.inl rfl)
 ·exact eol_takes hp hl hn h
 ·exact Takes.out (lineWay_in _ _ _) (lineWay_kind _ _ _)
 ·refine Takes.out ?_ (Or.inl rfl)
  have h1 := itr_w_le (g := key == 87) hp n
  have h2 := fin_le (itr_w_le (g := key == 87) hp (n - 1))
  simp only [wordQ, if_true]
  split <;> omega
 ·exact Takes.out (by have := itr_b_le (s := s) (p := p) (g := key == 66) n; simp only [wayB]; omega) (Or.inl rfl)
 ·exact end_takes _ hp h
 ·exact byte_takes _ _ hp (frm_pos _ _) h
 ·exact Takes.out (by have := itr_p_le (down := key == 125) hp n; simp only [parQ, if_true]; omega) (Or.inl rfl)
 ·exact pair_takes hp h
end Go.Proofs.YtlendfhehhacpaaGreat.Nib
namespace Go.Proofs.YtlendfhehhacpaaGreat.Nib
open Go
theorem getb {s : ByteArray} {i : Nat} (h : i < s.size) : s.get! i = s[i]'h := get_at s i h
theorem dec_high {s : ByteArray} {i : Nat} (h : i < s.size) (ha : 128 ≤ (s[i]'h).toNat) :
  i + (Utf8.decode s i).2 ≤ s.size ∧ ∀ j, (hj : j < s.size) → i ≤ j → j < i + (Utf8.decode s i).2 → 128 ≤ (s[j]'hj).toNat := by
 rw [← getb h] at ha
 rw [Lib.decode_at]
 have e : ∀ j (hj : j < s.size), (s[j]'hj) = s.get! j := fun j hj => (getb hj).symm
 unfold Lib.decodeN
 repeat' split
 all_goals simp only
 all_goals refine ⟨by omega, fun j hj h1 h2 => ?_⟩
 all_goals rw [e j hj]
 all_goals first
  | omega
  | (rcases (by omega : j = i ∨ j = i + 1 ∨ j = i + 2 ∨ j = i + 3) with hq | hq | hq | hq <;> rw [hq] <;> omega)
theorem dec_valid {s : ByteArray} {i : Nat} : (Utf8.decode s i).1 ≤ 1114111 ∧ ((Utf8.decode s i).1 < 55296 ∨ 57344 ≤ (Utf8.decode s i).1) := by
 rw [Lib.decode_at]
 have h0 := (s.get! i).toNat_lt
 have h1 := (s.get! (i + 1)).toNat_lt
 unfold Lib.decodeN
 repeat' split
 all_goals simp only
 all_goals omega
theorem enc2 (r : Nat) (c1 : ¬ r < 128) (c2 : r < 2048) : (Utf8.encode (r : Int)).data.toList = [UInt8.ofNat (192 + r / 64), UInt8.ofNat (128 + r % 64)] := by
 have v : Utf8.valid (r : Int) = true := by simp [Utf8.valid]; omega
 simp [Utf8.encode, v, c1, c2]
theorem enc3 (r : Nat) (c2 : ¬ r < 2048) (c3 : r < 65536) (hv : r < 55296 ∨ 57344 ≤ r) : (Utf8.encode (r : Int)).data.toList = [UInt8.ofNat (224 + r / 4096), UInt8.ofNat (128 + r / 64 % 64), UInt8.ofNat (128 + r % 64)] := by
 have v : Utf8.valid (r : Int) = true := by simp [Utf8.valid]; omega
 have c1 : ¬ r < 128 := by omega
 simp [Utf8.encode, v, c1, c2, c3]
theorem enc4 (r : Nat) (c3 : ¬ r < 65536) (c4 : r ≤ 1114111) : (Utf8.encode (r : Int)).data.toList = [UInt8.ofNat (240 + r / 262144), UInt8.ofNat (128 + r / 4096 % 64), UInt8.ofNat (128 + r / 64 % 64), UInt8.ofNat (128 + r % 64)] := by
 have v : Utf8.valid (r : Int) = true := by simp [Utf8.valid]; omega
 have c1 : ¬ r < 128 := by omega
 have c2 : ¬ r < 2048 := by omega
 simp [Utf8.encode, v, c1, c2, c3]
theorem size_list (b : ByteArray) : b.size = b.data.toList.length := by
 show b.data.size = _
 rw [Array.length_toList]
theorem last_list {b : ByteArray} {l : List UInt8} {c : UInt8} (e : b.data.toList = l ++ [c]) (hc : 128 ≤ c.toNat) (k : Nat) (hk : k < b.size) (h1 : k + 1 = b.size) : 128 ≤ (b[k]'hk).toNat := by
 have hl := size_list b
 rw [e] at hl
 simp at hl
 have : k = l.length := by omega
 subst this
 have hg : b[l.length]'hk = b.data.toList[l.length]'(by rw [← size_list]; exact hk) := by simp [ByteArray.getElem_eq_getElem_data]
 rw [hg]
 simp [e, hc]
theorem cont_ge (n : Nat) : 128 ≤ (UInt8.ofNat (128 + n % 64)).toNat := by
 simp; omega
theorem enc_last (r : Nat) (h : 128 ≤ r) (hv : r ≤ 1114111 ∧ (r < 55296 ∨ 57344 ≤ r)) :
  ∃ l : List UInt8, ∃ c : UInt8, (Utf8.encode (r : Int)).data.toList = l ++ [c] ∧ 1 ≤ l.length ∧ l.length ≤ 3 ∧ 128 ≤ c.toNat := by
 by_cases c2 : r < 2048
 ·exact ⟨[UInt8.ofNat (192 + r / 64)], UInt8.ofNat (128 + r % 64), enc2 r (by omega) c2, by simp, by simp, cont_ge r⟩
 ·by_cases c3 : r < 65536
  ·exact ⟨[UInt8.ofNat (224 + r / 4096), UInt8.ofNat (128 + r / 64 % 64)], UInt8.ofNat (128 + r % 64), enc3 r c2 c3 hv.2, by simp, by simp, cont_ge r⟩
  ·exact ⟨[UInt8.ofNat (240 + r / 262144), UInt8.ofNat (128 + r / 4096 % 64), UInt8.ofNat (128 + r / 64 % 64)], UInt8.ofNat (128 + r % 64), enc4 r c3 hv.1, by simp, by simp, cont_ge r⟩
