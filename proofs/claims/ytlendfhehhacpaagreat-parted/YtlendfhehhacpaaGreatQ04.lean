/- A part. -/
import Derived.Test.YtlendfhehhacpaaGreatQ02
import Derived.Lib.DecodeN
import Derived.Laws.RangeAny
set_option linter.unusedVariables false
set_option linter.unusedSimpArgs false
set_option maxRecDepth 100000
set_option maxHeartbeats 8000000
namespace Go.Proofs.YtlendfhehhacpaaGreat.Nib
def wayH (s : ByteArray) (p n : Nat) : Int × Int × Bool := (if (p : Int) - n < beg s p then (beg s p : Int) else (p : Int) - n, 0, (p : Int) == (beg s p : Int))
def mostL (s : ByteArray) (p : Nat) (v : Bool) : Nat := if v = true then fin s p else lst s p
def wayL (s : ByteArray) (p n : Nat) (v : Bool) : Int × Int × Bool :=
 (if (mostL s p v : Int) < (p : Int) + n then (mostL s p v : Int) else (p : Int) + n, 0, decide ((if (mostL s p v : Int) < (p : Int) + n then (mostL s p v : Int) else (p : Int) + n) ≤ (p : Int)))
def wayEol (s : ByteArray) (p n : Nat) : Int × Int × Bool :=
 if (lns s : Int) ≤ (lin s p : Int) + n - 1 then (0, 0, true)
 else ((lst s (att s (lin s p + n - 1)) : Int), if emp s (lst s (att s (lin s p + n - 1))) = true then 0 else 1, false)
def wayB (s : ByteArray) (p n : Nat) (g : Bool) : Int × Int × Bool := ((itr (bstep s g) n p : Int), 0, (p : Int) == 0)
def goWay (s : ByteArray) (p : Nat) (key c : Int) (n : Nat) (given v b : Bool) : Int × Int × Bool :=
 if key = 104 then wayH s p n else if key = 108 then wayL s p n v
 else if key = 48 then ((beg s p : Int), 0, false) else if key = 94 then ((frs s p : Int), 0, false)
 else if key = 36 then wayEol s p n
 else if key = 106 ∨ key = 107 ∨ key = 71 ∨ key = 103 then lineWay s p key n given
 else if key = 119 ∨ key = 87 then ((wordQ s p n (key == 87) v : Int), 0, (wordQ s p n (key == 87) v : Int) == (p : Int))
 else if key = 98 ∨ key = 66 then wayB s p n (key == 66)
 else if key = 101 ∨ key = 69 then endWay s (key == 69) n p
 else if key = 102 ∨ key = 116 ∨ key = 70 ∨ key = 84 then byteWay s p key c n (frm key b)
 else if key = 125 ∨ key = 123 then ((parQ s p n (key == 125) v : Int), 0, (parQ s p n (key == 125) v : Int) == (p : Int))
 else pairWay s p
theorem lst_in {s : ByteArray} {p : Nat} (h : p ≤ s.size) : beg s p ≤ lst s p ∧ lst s p ≤ fin s p := by
 have := fin_ge s p; have := beg_le s p
 unfold lst; split <;> omega
structure Cmd where
 more : Bool
 bad : Bool
 reg : Int
 n : Int
 given : Bool
 verb : Int
 twice : Bool
 object : Int
 around : Bool
 way : Int
 other : Int
 c : Int
def cMore : Cmd := ⟨true, false, 0, 0, false, 0, false, 0, false, 0, 0, 0⟩
def cBad : Cmd := ⟨false, true, 0, 0, false, 0, false, 0, false, 0, 0, 0⟩
def mem (s : ByteArray) (c : Int) : Bool := decide (up (fun i => bt s i != c) s.size 0 < s.size)
def isDig (s : ByteArray) (n a : Nat) : Bool := decide ((49 ≤ bt s a ∧ bt s a ≤ 57) ∨ (bt s a = 48 ∧ 0 < n))
def numF (s : ByteArray) : Nat → Nat → Nat → Nat × Nat
 | 0, n, a => (n, a)
 | f + 1, n, a => if a < s.size ∧ isDig s n a = true then numF s f (if 99 < n * 10 + (bt s a - 48).toNat then 99 else n * 10 + (bt s a - 48).toNat) (a + 1) else (n, a)
def num (s : ByteArray) (a : Nat) : Nat × Nat := numF s (s.size - a) 0 a
def kWays : ByteArray := ⟨#[104, 106, 107, 108, 48, 94, 36, 71, 119, 87, 98, 66, 101, 69, 59, 44, 123, 125, 37]⟩
def kFind : ByteArray := ⟨#[102, 116, 70, 84]⟩
def kObjs : ByteArray := ⟨#[119, 87, 40, 41, 91, 93, 123, 125, 34, 39, 112]⟩
def kVerbs : ByteArray := ⟨#[100, 99, 121, 60, 62]⟩
def kOther : ByteArray := ⟨#[120, 88, 68, 67, 115, 83, 89, 112, 80, 74, 126, 105, 73, 97, 65, 111, 79, 118, 86, 117, 46]⟩
def kMark : ByteArray := ⟨#[100, 120, 99, 115, 121, 60, 62, 117, 85, 111, 118, 86]⟩
def cW (x : Cmd) (c : Int) : Cmd := { x with way := c }
def cWC (x : Cmd) (c b : Int) : Cmd := { x with way := c, c := b }
def cOb (x : Cmd) (o : Int) (a : Bool) : Cmd := { x with object := o, around := a }
def cO (x : Cmd) (c : Int) : Cmd := { x with other := c }
def cOC (x : Cmd) (c b : Int) : Cmd := { x with other := c, c := b }
def cV (x : Cmd) (v : Int) : Cmd := { x with verb := v }
def cVN (x : Cmd) (v n : Int) : Cmd := { x with verb := v, n := n, given := true }
def cT (x : Cmd) : Cmd := { x with twice := true }
def rdWay (x : Cmd) (c : Int) (rest : ByteArray) : Cmd :=
 if mem kWays c = true then cW x c
 else if mem kFind c = true then (if rest.size = 0 then cMore else cWC x c (bt rest 0))
 else if c = 103 then (if rest.size = 0 then cMore else if bt rest 0 = 103 then cW x c else cBad)
 else cBad
def rdObject (x : Cmd) (c : Int) (rest : ByteArray) : Cmd :=
 if rest.size = 0 then cMore else if mem kObjs (bt rest 0) = true then cOb x (bt rest 0) (c == 97) else cBad
def rdMarked (x : Cmd) (c : Int) (rest : ByteArray) : Cmd :=
 if c = 105 ∨ c = 97 then rdObject x c rest else if mem kMark c = true then cO x c else rdWay x c rest
def rdCount (x : Cmd) (verb : Int) (k : Nat) : Cmd :=
 if 0 < k then cVN x verb (if 99 < x.n * k then 99 else x.n * k) else cV x verb
def rdVerb (x : Cmd) (verb last : Int) (rest : ByteArray) : Cmd :=
 if (num rest 0).2 = rest.size then cMore
 else if bt rest (num rest 0).2 = last then cT (rdCount x verb (num rest 0).1)
 else if bt rest (num rest 0).2 = 105 ∨ bt rest (num rest 0).2 = 97 then rdObject (rdCount x verb (num rest 0).1) (bt rest (num rest 0).2) (rest.extract ((num rest 0).2 + 1) rest.size)
 else rdWay (rdCount x verb (num rest 0).1) (bt rest (num rest 0).2) (rest.extract ((num rest 0).2 + 1) rest.size)
def slotN (c : Int) : Int := if c = 34 then 26 else if 97 ≤ c ∧ c ≤ 122 then c - 97 else -1
def cMk (reg n : Int) (given : Bool) : Cmd := ⟨false, false, reg, n, given, 0, false, 0, false, 0, 0, 0⟩
def cHead (reg : Int) (k : Nat) : Cmd := cMk reg (if 0 < k then (k : Int) else 1) (decide (0 < k))
def rdNorm (x : Cmd) (c : Int) (rest : ByteArray) : Cmd :=
 if mem kVerbs c = true then rdVerb x c c rest
 else if c = 103 ∧ 0 < rest.size ∧ (bt rest 0 = 117 ∨ bt rest 0 = 85) then rdVerb x (bt rest 0) (bt rest 0) (rest.extract 1 rest.size)
 else if c = 114 then (if rest.size = 0 then cMore else cOC x c (bt rest 0))
 else if mem kOther c = true ∨ c = 18 then cO x c
 else rdWay x c rest
def rdBody (x : Cmd) (marked : Bool) (c : Int) (rest : ByteArray) : Cmd := if marked = true then rdMarked x c rest else rdNorm x c rest
def rdFrom (s : ByteArray) (marked : Bool) (reg : Int) (a : Nat) : Cmd :=
 if (num s a).2 = s.size then cMore else rdBody (cHead reg (num s a).1) marked (bt s (num s a).2) (s.extract ((num s a).2 + 1) s.size)
def rd (s : ByteArray) (marked : Bool) : Cmd :=
 if bt s 0 = 34 then (if s.size = 1 then cMore else if slotN (bt s 1) < 0 then cBad else rdFrom s marked (slotN (bt s 1)) 2) else rdFrom s marked (-1) 0
def isFind (key : Int) : Bool := key == 102 || key == 116 || key == 70 || key == 84
def flp (key : Int) : Int := if key = 102 then 70 else if key = 70 then 102 else if key = 116 then 84 else if key = 84 then 116 else key
def isD (n : Nat) (c : Int) : Bool := decide ((49 ≤ c ∧ c ≤ 57) ∨ (c = 48 ∧ 0 < n))
def nextN (n : Nat) (c : Int) : Nat := if 99 < n * 10 + (c - 48).toNat then 99 else n * 10 + (c - 48).toNat
def sta (s : ByteArray) (x : Nat) : Prop := x = 0 ∨ (0 < x ∧ nl s (x - 1) = true)
theorem sta_inj {s : ByteArray} {x y : Nat} (hx : sta s x) (hy : sta s y) (h : lin s x = lin s y) : x = y := by
 have key : ∀ a b : Nat, sta s b → lin s a = lin s b → ¬ a < b := by
  intro a b hb h hl
  rcases hb with hb | ⟨hb, hn⟩
  ·omega
  ·obtain ⟨k, rfl⟩ : ∃ k, b = k + 1 := ⟨b - 1, by omega⟩
   have h1 := lin_mono (s := s) (a := a) (b := k) qo
   have h2 : lin s (k + 1) = lin s k + 1 := by simp only [lin]; rw [if_pos (by simpa using hn)]
   omega
 have h1 := key x y hy h
 have h2 := key y x hx h.symm
 omega
theorem sta_beg (s : ByteArray) (p : Nat) : sta s (beg s p) := by
 by_cases h : beg s p = 0
 ·exact Or.inl h
 ·exact Or.inr ⟨by omega, beg_nl qo⟩
theorem fin_lt_of {s : ByteArray} {m : Nat} (h : m + 1 < lns s) : fin s (att s m) < s.size := by
 have h1 := (att_in (s := s) (m := m + 1) h).1
 simp only [att] at h1; omega
theorem fin_last {s : ByteArray} {m : Nat} (h : m + 1 = lns s) : fin s (att s m) = s.size := by
 have h1 := att_in (s := s) (m := m) qo
 have h2 := fin_le (s := s) (p := att s m) h1.1
 by_cases h3 : fin s (att s m) < s.size
 ·have h4 := fin_nl h3
  have h5 : lin s (fin s (att s m) + 1) = lin s (fin s (att s m)) + 1 := by simp only [lin]; rw [if_pos h4]
  have h6 := lin_mono (s := s) (a := fin s (att s m) + 1) (b := s.size) qo
  rw [lin_fin] at h5
  unfold lns at h; omega
 ·omega
theorem sta_att {s : ByteArray} {m : Nat} (h : m < lns s) : sta s (att s m) := by
 cases m with
 | zero => exact Or.inl rfl
 | succ m => exact Or.inr ⟨by simp only [att]; omega, by simp only [att, Nat.add_sub_cancel]; exact fin_nl (fin_lt_of h)⟩
theorem beg_att {s : ByteArray} {m : Nat} (h : m < lns s) : beg s (att s m) = att s m :=
 sta_inj (sta_beg s _) (sta_att h) (lin_beg s _)
theorem beg_eq {s : ByteArray} {p : Nat} (h : p ≤ s.size) : beg s p = att s (lin s p) :=
 sta_inj (sta_beg s _) (sta_att (lin_lt h)) (by rw [lin_beg, (att_in (lin_lt h)).2])
theorem fin_beg (s : ByteArray) (p : Nat) (h : p ≤ s.size) : fin s (beg s p) = fin s p := by
 have hb := beg_le s p
 have hg := fin_ge s p
 refine up_eq qo (fin_le h) (fun i h1 h2 => ?_) (fun h1 => ?_)
 ·by_cases hi : i < p
  ·simp [beg_no h1 hi]
  ·simp [fin_no (s := s) (p := p) (i := i) qo h2]
 ·simp [fin_nl h1]
theorem fin_eq {s : ByteArray} {p : Nat} (h : p ≤ s.size) : fin s p = fin s (att s (lin s p)) := by rw [← beg_eq h, fin_beg s p h]
theorem line_up {s : ByteArray} {m : Nat} (h : m < lns s) (h0 : 0 < m) : beg s (att s m - 1) = att s (m - 1) ∧ fin s (att s m - 1) = fin s (att s (m - 1)) := by
 obtain ⟨k, rfl⟩ : ∃ k, m = k + 1 := ⟨m - 1, by omega⟩
 have hf := fin_lt_of h
 simp only [att, Nat.add_sub_cancel]
 have hl : lin s (fin s (att s k)) = k := by rw [lin_fin]; exact (att_in qo).2
 constructor
 ·rw [beg_eq qo, hl]
 ·rw [fin_eq qo, hl]
theorem line_down {s : ByteArray} {m : Nat} (h : m + 1 < lns s) : beg s (fin s (att s m) + 1) = att s (m + 1) ∧ fin s (fin s (att s m) + 1) = fin s (att s (m + 1)) := by
 have : fin s (att s m) + 1 = att s (m + 1) := rfl
 rw [this]
 exact ⟨beg_att h, rfl⟩
theorem att_pos {s : ByteArray} {m : Nat} (h0 : 0 < m) : 0 < att s m := by
 cases m with
 | zero => omega
 | succ m => simp only [att]; omega
theorem lst_max (s : ByteArray) (p : Nat) : ((lst s p : Nat) : Int) = max ((beg s p : Nat) : Int) (((fin s p : Nat) : Int) - 1) := by
 unfold lst; split <;> omega
def ind (s : ByteArray) (p : Nat) : Nat := up (fun i => blk (bt s i)) (fin s p) (beg s p)
theorem frs_min (s : ByteArray) (p : Nat) (h : p ≤ s.size) : ((frs s p : Nat) : Int) = min ((ind s p : Nat) : Int) ((lst s p : Nat) : Int) := by
 have h1 := beg_le s p
 have h2 := fin_ge s p
 have h3 : ind s p ≤ fin s p := up_le qo
 have h4 : beg s p ≤ ind s p := up_ge _ _ _
 unfold frs
 unfold ind at *
 split
 ·rename_i h5
  unfold lst; split <;> omega
 ·unfold lst; split <;> omega
def runB (s : ByteArray) (p : Nat) (g : Bool) : Nat := dn (like s p g) p
theorem runB_le (s : ByteArray) (p : Nat) (g : Bool) : runB s p g ≤ p := dn_le _ _
theorem wrun_le {s : ByteArray} {p : Nat} {g : Bool} (h : p ≤ s.size) : wrun s p g ≤ s.size := up_le h
theorem wrun_ge (s : ByteArray) (p : Nat) (g : Bool) : p ≤ wrun s p g := up_ge _ _ _
theorem lst_line {s : ByteArray} {m : Nat} (h : m < lns s) : lst s (att s m) = if att s m < fin s (att s m) then fin s (att s m) - 1 else att s m := by
 unfold lst; rw [beg_att h]
theorem lin_lst {s : ByteArray} {m : Nat} (h : m < lns s) : lin s (lst s (att s m)) = m := by
 have h1 := att_in h
 have h2 := fin_le h1.1
 rw [lst_line h]
 split
 ·rename_i h3
  have h4 : lin s (fin s (att s m) - 1) = lin s (att s m) := lin_flat qo (fun i h1 h2 => fin_no h1 qo)
  rw [h4, h1.2]
 ·exact h1.2
theorem emp_lst {s : ByteArray} {m : Nat} (h : m < lns s) : emp s (lst s (att s m)) = (((att s m : Nat) : Int) == ((fin s (att s m) : Nat) : Int)) := by
 have h1 := att_in h
 have h2 := fin_le h1.1
 have h3 := fin_ge s (att s m)
 have hl := lin_lst h
 have hle : lst s (att s m) ≤ s.size := lst_le h1.1
 unfold emp
 rw [beg_eq hle, fin_eq hle, hl, lst_line h, Bool.eq_iff_iff]
 simp only [Bool.and_eq_true, beq_iff_eq]
 split <;> omega
theorem emp_att {s : ByteArray} {m : Nat} (h : m < lns s) : emp s (att s m) = (((att s m : Nat) : Int) == ((fin s (att s m) : Nat) : Int)) := by
 unfold emp
 rw [beg_att h]
 generalize fin s (att s m) = F
 generalize att s m = A
 rw [Bool.eq_iff_iff]
 simp only [Bool.and_eq_true, beq_iff_eq, true_and]
 omega
theorem emp_no {s : ByteArray} {i : Nat} (h : i < s.size) (hn : nl s i = false) : emp s i = false := by
 have h1 : i + 1 ≤ fin s i := by
  unfold fin; rw [up_step h (by simp [hn])]; exact up_ge _ _ _
 unfold emp
 have : (fin s i == i) = false := by simp; omega
 rw [this, Bool.and_false]
theorem nl_spc {s : ByteArray} {i : Nat} (h : nl s i = true) : spc (bt s i) = true := by
 unfold nl at h
 unfold spc
 simp only [beq_iff_eq] at h
 simp [h]
theorem fin_att_no {s : ByteArray} {j i : Nat} (h1 : att s j ≤ i) (h2 : i < fin s (att s j)) : nl s i = false := fin_no h1 h2
theorem emp_fin {s : ByteArray} {j : Nat} (hj : j < lns s) (h : att s j < fin s (att s j)) : emp s (fin s (att s j)) = false := by
 have h1 := fin_le (att_in hj).1
 have hb : beg s (fin s (att s j)) = att s j := by rw [beg_eq h1, lin_fin, (att_in hj).2]
 unfold emp
 have : (beg s (fin s (att s j)) == fin s (att s j)) = false := by rw [hb]; simp; omega
 rw [this, Bool.false_and]
theorem emp_att_ne {s : ByteArray} {j : Nat} (hj : j < lns s) (h : emp s (att s j) = false) : att s j < fin s (att s j) := by
 have h3 := fin_ge s (att s j)
 rw [emp_att hj] at h
 simp at h
 omega
theorem spc_nl_f {s : ByteArray} {i : Nat} (h : spc (bt s i) = false) : nl s i = false := by
 cases hn : nl s i with
 | false => rfl
 | true => rw [nl_spc hn] at h; exact absurd h qi
theorem emp_behind {s : ByteArray} {q : Nat} (h0 : 0 < q) (hn : nl s (q - 1) = false) : emp s q = false := by
 obtain ⟨k, rfl⟩ : ∃ k, q = k + 1 := ⟨q - 1, by omega⟩
 have h1 : beg s (k + 1) ≤ k := by
  unfold beg
  simp only [Nat.add_sub_cancel] at hn
  rw [dn_step (by simp [hn])]
  exact dn_le _ _
 unfold emp
 have : (beg s (k + 1) == k + 1) = false := by simp; omega
 rw [this, Bool.false_and]
theorem wrun_nsp {s : ByteArray} {r i : Nat} {g : Bool} (h0 : spc (bt s r) = false) (h1 : r ≤ i) (h2 : i < wrun s r g) : spc (bt s i) = false := by
 have h := up_all (c := like s r g) (n := s.size) h1 h2
 unfold like at h
 simp only [beq_iff_eq] at h
 have h3 := cls_nsp (g := g) h0
 cases hs : spc (bt s i) with
 | false => rfl
 | true => have := cls_spc (g := g) hs; omega
theorem wrun_gt {s : ByteArray} {r : Nat} {g : Bool} (h : r < s.size) : r < wrun s r g := by
 have h1 : up (like s r g) s.size r = up (like s r g) s.size (r + 1) := up_step h (like_self s r g)
 have h2 : r + 1 ≤ up (like s r g) s.size (r + 1) := up_ge (like s r g) s.size (r + 1)
 have h3 : wrun s r g = up (like s r g) s.size r := rfl
 omega
theorem emp_wfrom {s : ByteArray} {r : Nat} {g : Bool} (h : wfrom s r g ≠ r) : emp s (wfrom s r g) = false := by
 unfold wfrom at *
 split at h
 ·rename_i hc
  rw [if_pos hc]
  have hg := wrun_gt (g := g) hc.1
  exact emp_behind qo (spc_nl_f (wrun_nsp (g := g) hc.2 qo qo))
 ·exact absurd rfl h
theorem wgap1 (s : ByteArray) (r i : Nat) (h : spc (bt s i) = false) : wgap s r i = false := by unfold wgap; rw [h, Bool.false_and]
theorem wgap2 (s : ByteArray) (r i : Nat) (g : Bool) (h : spc (bt s i) = true) (h2 : emp s i = false ∨ i = wfrom s r g) : wgap s r i = true := by
 unfold wgap
 rw [h, Bool.true_and]
 rcases h2 with h2 | h2
 ·rw [h2]; rfl
 ·by_cases e : i = r
  ·subst e; simp
  ·have := emp_wfrom (s := s) (r := r) (g := g) qo
   rw [h2, this]; rfl
theorem wgap3 (s : ByteArray) (r i : Nat) (g : Bool) (h : wfrom s r g < i) (h2 : emp s i = true) : wgap s r i = false := by
 have := wfrom_ge s r g
 unfold wgap
 have e : (i != r) = true := by simp; omega
 rw [h2, e]; simp
theorem lst_size (s : ByteArray) : lst s s.size = if beg s s.size < s.size then s.size - 1 else s.size := by
 have h1 : fin s s.size = s.size := Nat.le_antisymm (fin_le (Nat.le_refl _)) (fin_ge _ _)
 have h2 := beg_le s s.size
 unfold lst; rw [h1]; split
 ·rfl
 ·omega
theorem clm_word {s : ByteArray} {r : Nat} {g : Bool} (h : r ≤ s.size) : ((clm s (wstep s g r) : Nat) : Int) = if ((lst s s.size : Nat) : Int) < ((wstep s g r : Nat) : Int) then ((lst s s.size : Nat) : Int) else ((wstep s g r : Nat) : Int) := by
 have hle := wstep_le (g := g) h
 by_cases he : wstep s g r = s.size
 ·rw [he]; unfold clm; split <;> split <;> first | rfl | omega
 ·have hlt : wstep s g r < s.size := by omega
  have hg : wgap s r (wstep s g r) = false := up_end (c := wgap s r) (n := s.size) (p := wfrom s r g) hlt
  have hc : clm s (wstep s g r) = wstep s g r := by
   unfold clm
   rw [if_neg]
   generalize wstep s g r = q at *
   unfold wgap at hg
   cases hs : spc (bt s q) with
   | false =>
    have hn := spc_nl_f hs
    have h1 : q + 1 ≤ fin s q := by unfold fin; rw [up_step hlt (by simp [hn])]; exact up_ge _ _ _
    have h2 := beg_le s q
    unfold lst; split <;> omega
   | true =>
    rw [hs, Bool.true_and] at hg
    have he : emp s q = true := by
     cases hq : emp s q with
     | true => rfl
     | false => rw [hq] at hg; simp at hg
    unfold emp at he
    simp only [Bool.and_eq_true, beq_iff_eq] at he
    unfold lst; split <;> omega
  rw [hc, if_neg]
  rw [lst_size]; split <;> omega
def wes (s : ByteArray) (g : Bool) (r : Nat) : Nat := if estep s g (r + 1) < 0 then r else (estep s g (r + 1)).toNat
theorem wes_ge (s : ByteArray) (g : Bool) (r : Nat) : r ≤ wes s g r := by
 unfold wes
 split
 ·exact Nat.le_refl _
 ·rename_i h
  have := estep_ge (s := s) (q := r + 1) (g := g) qo
  omega
theorem wes_gt {s : ByteArray} {g : Bool} {r : Nat} (h : ¬ estep s g (r + 1) < 0) : r < wes s g r := by
 unfold wes
 rw [if_neg h]
 have := estep_ge (s := s) (q := r + 1) (g := g) qo
 omega
theorem wes_le {s : ByteArray} {g : Bool} {r : Nat} (h : r ≤ s.size) : wes s g r ≤ s.size := by
 unfold wes
 split
 ·exact h
 ·have := estep_lt s (r + 1) g; omega
theorem itr_wes_ge (s : ByteArray) (g : Bool) (r n : Nat) : r ≤ itr (wes s g) n r := by
 induction n with
 | zero => exact Nat.le_refl _
 | succ n ih => exact Nat.le_trans ih (wes_ge s g _)
theorem itr_wes_le {s : ByteArray} {g : Bool} {r : Nat} (h : r ≤ s.size) (n : Nat) : itr (wes s g) n r ≤ s.size := by
 induction n with
 | zero => exact h
 | succ n ih => exact wes_le ih
theorem itr_succ' (f : Nat → Nat) (n r : Nat) : itr f (n + 1) r = itr f n (f r) := by
 induction n with
 | zero => rfl
 | succ n ih =>
  show f (itr f (n + 1) r) = f (itr f n (f r))
  rw [ih]
theorem itr_fix {f : Nat → Nat} {r : Nat} (h : f r = r) (n : Nat) : itr f n r = r := by
 induction n with
 | zero => rfl
 | succ n ih => show f (itr f n r) = r; rw [ih, h]
theorem eitr_itr (s : ByteArray) (g : Bool) (r n : Nat) : eitr s g n (r : Int) = ((itr (wes s g) n r : Nat) : Int) := by
 induction n with
 | zero => rfl
 | succ n ih =>
  show (if estep s g (eitr s g n r + 1).toNat < 0 then eitr s g n r else estep s g (eitr s g n r + 1).toNat) = ((wes s g (itr (wes s g) n r) : Nat) : Int)
  rw [ih]
  have e : (((itr (wes s g) n r : Nat) : Int) + 1).toNat = itr (wes s g) n r + 1 := by omega
  rw [e]
  unfold wes
  split
  ·rfl
  ·omega
theorem endWay_itr (s : ByteArray) (g : Bool) (p n : Nat) (hn : 1 ≤ n) : (endWay s g n p).2.2 = (((itr (wes s g) n p : Nat) : Int) == (p : Int)) ∧ ((endWay s g n p).2.2 = false → (endWay s g n p).1 = ((itr (wes s g) n p : Nat) : Int) ∧ (endWay s g n p).2.1 = 1) := by
 have e : ((p : Int) + 1).toNat = p + 1 := by omega
 obtain ⟨k, rfl⟩ : ∃ k, n = k + 1 := ⟨n - 1, by omega⟩
 unfold endWay
 rw [e]
 by_cases h : estep s g (p + 1) < 0
 ·rw [if_pos h]
  have h1 : wes s g p = p := by unfold wes; rw [if_pos h]
  rw [itr_fix h1]
  simp
 ·rw [if_neg h]
  have h1 := wes_gt h
  have h2 := itr_wes_ge s g (wes s g p) k
  rw [← itr_succ'] at h2
  rw [eitr_itr]
  refine ⟨?_, fun _ => ⟨rfl, rfl⟩⟩
  have : (((itr (wes s g) (k + 1) p : Nat) : Int) == (p : Int)) = false := by simp; omega
  rw [this]
theorem wes_eq {s : ByteArray} {g : Bool} {r : Nat} (h : r < s.size) : wes s g r = if up (sp s) s.size (r + 1) = s.size then r else wrun s (up (sp s) s.size (r + 1)) g - 1 := by
 have hle : up (sp s) s.size (r + 1) ≤ s.size := up_le qo
 unfold wes estep
 by_cases hq : up (sp s) s.size (r + 1) < s.size
 ·rw [if_pos hq, if_neg (by omega : ¬ up (sp s) s.size (r + 1) = s.size)]
  generalize up (sp s) s.size (r + 1) = q at *
  have h1 : wrun s q g = up (like s q g) s.size (q + 1) := up_step hq (like_self s q g)
  have h2 : q + 1 ≤ up (like s q g) s.size (q + 1) := up_ge (like s q g) s.size (q + 1)
  rw [h1, if_neg qo]
  omega
 ·rw [if_neg hq, if_pos qo, if_pos qo]
theorem wes_end {s : ByteArray} {g : Bool} : wes s g s.size = s.size := by
 unfold wes estep
 have h1 : s.size + 1 ≤ up (sp s) s.size (s.size + 1) := up_ge _ _ _
 have h2 : ¬ up (sp s) s.size (s.size + 1) < s.size := by omega
 simp [h2]
theorem emp_in {s : ByteArray} {j i : Nat} (hj : j < lns s) (h1 : att s j ≤ i) (h2 : i ≤ fin s (att s j)) (h : att s j < fin s (att s j)) : emp s i = false := by
 have hf := fin_le (att_in hj).1
 by_cases he : i = fin s (att s j)
 ·rw [he]; exact emp_fin hj h
 ·exact emp_no qo (fin_no h1 qo)
theorem bgap_go {s : ByteArray} {i : Nat} (h : spc (bt s i) = true) (he : emp s i = false) : dn (bgap s) i = dn (bgap s) (i - 1) := by
 cases i with
 | zero => rfl
 | succ k => exact dn_step (by unfold bgap; rw [h, he]; rfl)
theorem bgap_ink {s : ByteArray} {i : Nat} (h : spc (bt s i) = false) : dn (bgap s) i = i := by
 cases i with
 | zero => rfl
 | succ k => exact dn_stop (by unfold bgap; rw [h]; rfl)
theorem bgap_emp {s : ByteArray} {i : Nat} (h : emp s i = true) : dn (bgap s) i = i := by
 cases i with
 | zero => rfl
 | succ k => exact dn_stop (by unfold bgap; rw [h]; simp)
section
variable {keys : ByteArray} {n : Nat} {u : UInt8} (m : Bool)
end
theorem mtD_other {s : ByteArray} {a b : Int} (hab : a ≠ b) : ∀ (j : Nat) (n : Int), 0 ≤ n → (1 ≤ n ∨ (1 ≤ j ∧ bt s (j - 1) = a)) → 0 ≤ mtD s a b n j → bt s (mtD s a b n j).toNat = b := by
 intro j
 induction j with
 | zero => intro n _ _ h; simp only [mtD] at h; omega
 | succ j ih =>
  intro n hn ho h
  simp only [mtD] at h ⊢
  by_cases hA : bt s j = a
  ·have hB : bt s j ≠ b := fun e => hab (hA.symm.trans e)
   have e : dep s a b n j = n + 1 := by unfold dep; rw [if_pos hA, if_neg hB]; omega
   rw [e, if_neg qo] at h ⊢
   exact ih _ qo (Or.inl qo) h
  ·have hn1 : 1 ≤ n := by
    rcases ho with h | h
    ·exact h
    ·exact absurd h.2 hA
   by_cases hB : bt s j = b
   ·have e : dep s a b n j = n - 1 := by unfold dep; rw [if_neg hA, if_pos hB]; omega
    rw [e] at h ⊢
    by_cases h1 : n = 1
    ·rw [if_pos qo]; simpa using hB
    ·rw [if_neg qo] at h ⊢
     exact ih _ qo (Or.inl qo) h
   ·have e : dep s a b n j = n := by unfold dep; rw [if_neg hA, if_neg hB]; omega
    rw [e, if_neg qo] at h ⊢
    exact ih _ hn (Or.inl hn1) h
theorem mtU_ge {s : ByteArray} {a b : Int} : ∀ (f : Nat) (n : Int) (i : Nat), 0 ≤ mtU s a b f n i → (i : Int) ≤ mtU s a b f n i := by
 intro f
 induction f with
 | zero => intro n i h; simp only [mtU] at h; omega
 | succ f ih =>
  intro n i h
  simp only [mtU] at h ⊢
  split at h
  ·rename_i hi
   rw [if_pos hi]
   split at h
   ·rename_i hd; rw [if_pos hd]; omega
   ·rename_i hd; rw [if_neg hd]; have := ih _ _ h; omega
  ·omega
theorem mtch_gt {s : ByteArray} {p : Nat} (hp : p < s.size) (ho : opn (bt s p) = true) (h : 0 ≤ mtch s p) : (p : Int) < mtch s p := by
 unfold mtch at h ⊢
 rw [if_pos ho] at h ⊢
 have hne : bt s p ≠ prt (bt s p) := by
  unfold opn at ho
  simp only [Bool.or_eq_true, beq_iff_eq] at ho
  rcases ho with (ho | ho) | ho <;> rw [ho] <;> decide
 obtain ⟨f, hf⟩ : ∃ f, s.size - p = f + 1 := ⟨s.size - p - 1, by omega⟩
 rw [hf] at h ⊢
 simp only [mtU] at h ⊢
 have e : dep s (bt s p) (prt (bt s p)) 0 p = 1 := by unfold dep; rw [if_pos rfl, if_neg hne]; omega
 rw [if_pos hp, e, if_neg qd] at h ⊢
 have := mtU_ge _ _ _ h
 omega
end Go.Proofs.YtlendfhehhacpaaGreat.Nib
namespace Go.Proofs.YtlendfhehhacpaaGreat.Nib
open Go
theorem getb {s : ByteArray} {i : Nat} (h : i < s.size) : s.get! i = s[i]'h := get_at s i h
theorem dec_high {s : ByteArray} {i : Nat} (h : i < s.size) (ha : 128 ≤ (s[i]'h).toNat) :
  i + (Utf8.decode s i).2 ≤ s.size ∧ ∀ j, (hj : j < s.size) → i ≤ j → j < i + (Utf8.decode s i).2 → 128 ≤ (s[j]'hj).toNat := by
 rw [← getb h] at ha
 rw [Lib.decode_at]
 have e : ∀ j (hj : j < s.size), (s[j]'hj) = s.get! j := fun j hj => (getb hj).symm
 unfold Lib.decodeN
 repeat' split
 all_goals simp only
 all_goals refine ⟨by omega, fun j hj h1 h2 => ?_⟩
 all_goals rw [e j hj]
 all_goals first
  | omega
  | (rcases (by omega : j = i ∨ j = i + 1 ∨ j = i + 2 ∨ j = i + 3) with hq | hq | hq | hq <;> rw [hq] <;> omega)
theorem dec_valid {s : ByteArray} {i : Nat} : (Utf8.decode s i).1 ≤ 1114111 ∧ ((Utf8.decode s i).1 < 55296 ∨ 57344 ≤ (Utf8.decode s i).1) := by
 rw [Lib.decode_at]
 have h0 := (s.get! i).toNat_lt
 have h1 := (s.get! (i + 1)).toNat_lt
 unfold Lib.decodeN
 repeat' split
 all_goals simp only
 all_goals omega
theorem enc2 (r : Nat) (c1 : ¬ r < 128) (c2 : r < 2048) : (Utf8.encode (r : Int)).data.toList = [UInt8.ofNat (192 + r / 64), UInt8.ofNat (128 + r % 64)] := by
 have v : Utf8.valid (r : Int) = true := by simp [Utf8.valid]; omega
 simp [Utf8.encode, v, c1, c2]
theorem enc3 (r : Nat) (c2 : ¬ r < 2048) (c3 : r < 65536) (hv : r < 55296 ∨ 57344 ≤ r) : (Utf8.encode (r : Int)).data.toList = [UInt8.ofNat (224 + r / 4096), UInt8.ofNat (128 + r / 64 % 64), UInt8.ofNat (128 + r % 64)] := by
 have v : Utf8.valid (r : Int) = true := by simp [Utf8.valid]; omega
 have c1 : ¬ r < 128 := by omega
 simp [Utf8.encode, v, c1, c2, c3]
theorem enc4 (r : Nat) (c3 : ¬ r < 65536) (c4 : r ≤ 1114111) : (Utf8.encode (r : Int)).data.toList = [UInt8.ofNat (240 + r / 262144), UInt8.ofNat (128 + r / 4096 % 64), UInt8.ofNat (128 + r / 64 % 64), UInt8.ofNat (128 + r % 64)] := by
 have v : Utf8.valid (r : Int) = true := by simp [Utf8.valid]; omega
 have c1 : ¬ r < 128 := by omega
 have c2 : ¬ r < 2048 := by omega
 simp [Utf8.encode, v, c1, c2, c3]
theorem size_list (b : ByteArray) : b.size = b.data.toList.length := by
 show b.data.size = _
 rw [Array.length_toList]
theorem last_list {b : ByteArray} {l : List UInt8} {c : UInt8} (e : b.data.toList = l ++ [c]) (hc : 128 ≤ c.toNat) (k : Nat) (hk : k < b.size) (h1 : k + 1 = b.size) : 128 ≤ (b[k]'hk).toNat := by
 have hl := size_list b
 rw [e] at hl
 simp at hl
 have : k = l.length := by omega
 subst this
 have hg : b[l.length]'hk = b.data.toList[l.length]'(by rw [← size_list]; exact hk) := by simp [ByteArray.getElem_eq_getElem_data]
 rw [hg]
 simp [e, hc]
theorem cont_ge (n : Nat) : 128 ≤ (UInt8.ofNat (128 + n % 64)).toNat := by
 simp; omega
theorem enc_last (r : Nat) (h : 128 ≤ r) (hv : r ≤ 1114111 ∧ (r < 55296 ∨ 57344 ≤ r)) :
  ∃ l : List UInt8, ∃ c : UInt8, (Utf8.encode (r : Int)).data.toList = l ++ [c] ∧ 1 ≤ l.length ∧ l.length ≤ 3 ∧ 128 ≤ c.toNat := by
 by_cases c2 : r < 2048
 ·exact ⟨[UInt8.ofNat (192 + r / 64)], UInt8.ofNat (128 + r % 64), enc2 r (by omega) c2, by simp, by simp, cont_ge r⟩
 ·by_cases c3 : r < 65536
  ·exact ⟨[UInt8.ofNat (224 + r / 4096), UInt8.ofNat (128 + r / 64 % 64)], UInt8.ofNat (128 + r % 64), enc3 r c2 c3 hv.2, by simp, by simp, cont_ge r⟩
  ·exact ⟨[UInt8.ofNat (240 + r / 262144), UInt8.ofNat (128 + r / 4096 % 64), UInt8.ofNat (128 + r / 64 % 64)], UInt8.ofNat (128 + r % 64), enc4 r c3 hv.1, by simp, by simp, cont_ge r⟩
