/- A part. -/
import Derived.Test.YtlendfhehhacpaaGreatP01
import Derived.Lib.DecodeN
import Derived.Laws.RangeAny
set_option linter.unusedVariables false
set_option linter.unusedSimpArgs false
set_option maxRecDepth 100000
set_option maxHeartbeats 8000000
namespace Go.Proofs.YtlendfhehhacpaaGreat.Nib
def fndU (s : ByteArray) (c : Int) (e : Nat) : Nat → Nat → Nat → Option Nat
 | 0, _, _ => none
 | f + 1, n, i => if i < e then (if bt s i = c then (if n = 1 then some i else fndU s c e f (n - 1) (i + 1)) else fndU s c e f n (i + 1)) else none
def fndD (s : ByteArray) (c : Int) (b : Nat) : Nat → Nat → Option Nat
 | _, 0 => none
 | n, j + 1 => if b ≤ j then (if bt s j = c then (if n = 1 then some j else fndD s c b (n - 1) j) else fndD s c b n j) else none
def resU (d : Int) : Option Nat → Int × Int × Bool
 | some i => ((i : Int) + d, 1, false)
 | none => (0, 0, true)
def resD (d : Int) : Option Nat → Int × Int × Bool
 | some i => ((i : Int) + d, 0, false)
 | none => (0, 0, true)
def byteWay (s : ByteArray) (p : Nat) (key c : Int) (n from' : Nat) : Int × Int × Bool :=
 if key = 102 then resU 0 (fndU s c (fin s p) (fin s p - (p + from')) n (p + from'))
 else if key = 116 then resU (-1) (fndU s c (fin s p) (fin s p - (p + from')) n (p + from'))
 else if key = 70 then resD 0 (fndD s c (beg s p) n (p + 1 - from'))
 else resD 1 (fndD s c (beg s p) n (p + 1 - from'))
def frm (key : Int) (b : Bool) : Nat := if b = true ∧ (key = 116 ∨ key = 84) then 2 else 1
theorem fndU_lt {s : ByteArray} {c : Int} {e : Nat} : ∀ (f n i q : Nat), fndU s c e f n i = some q → i ≤ q ∧ q < e := by
 intro f
 induction f with
 | zero => intro n i q h; simp [fndU] at h
 | succ f ih =>
  intro n i q h
  simp only [fndU] at h
  split at h
  ·split at h
   ·split at h
    ·injection h with h; omega
    ·have := ih _ _ _ h; omega
   ·have := ih _ _ _ h; omega
  ·cases h
theorem fndD_lt {s : ByteArray} {c : Int} {b : Nat} : ∀ (j n q : Nat), fndD s c b n j = some q → b ≤ q ∧ q < j := by
 intro j
 induction j with
 | zero => intro n q h; simp [fndD] at h
 | succ j ih =>
  intro n q h
  simp only [fndD] at h
  split at h
  ·split at h
   ·split at h
    ·injection h with h; omega
    ·have := ih _ _ h; omega
   ·have := ih _ _ h; omega
  ·cases h
def parB (s : ByteArray) (k : Nat) : Bool := emp s (att s k) && !emp s (att s (k - 1))
def parA (s : ByteArray) (k : Nat) : Bool := emp s (att s k) && !emp s (att s (k + 1))
def parD (s : ByteArray) : Nat → Nat → Nat
 | 0, _ => s.size
 | f + 1, k => if parB s k = true then att s k else parD s f (k + 1)
def parU (s : ByteArray) : Nat → Nat
 | 0 => 0
 | k + 1 => if parA s k = true then att s k else parU s k
def parStep (s : ByteArray) (down : Bool) (q : Nat) : Nat :=
 if down = true then parD s (lns s - 1 - lin s q) (lin s q + 1) else parU s (lin s q)
def parQ (s : ByteArray) (p n : Nat) (down v : Bool) : Nat :=
 if v = true then itr (parStep s down) n p else clm s (itr (parStep s down) n p)
theorem parD_le {s : ByteArray} : ∀ f k, k + f ≤ lns s → parD s f k ≤ s.size := by
 intro f
 induction f with
 | zero => intro k _; simp [parD]
 | succ f ih =>
  intro k h
  simp only [parD]; split
  ·exact (att_in qo).1
  ·exact ih _ qo
theorem parU_le {s : ByteArray} : ∀ k, k ≤ lns s → parU s k ≤ s.size := by
 intro k
 induction k with
 | zero => intro _; simp [parU]
 | succ k ih =>
  intro h
  simp only [parU]; split
  ·exact (att_in qo).1
  ·exact ih qo
theorem parStep_le {s : ByteArray} {down : Bool} {q : Nat} (h : q ≤ s.size) : parStep s down q ≤ s.size := by
 have := lin_lt h
 unfold parStep; split
 ·exact parD_le _ _ qo
 ·exact parU_le _ qo
theorem itr_p_le {s : ByteArray} {p : Nat} {down : Bool} (h : p ≤ s.size) (n : Nat) : itr (parStep s down) n p ≤ s.size := by
 induction n with
 | zero => exact h
 | succ n ih => exact parStep_le ih
def prt (c : Int) : Int :=
 if c = 40 then 41 else if c = 91 then 93 else if c = 123 then 125 else if c = 41 then 40 else if c = 93 then 91 else if c = 125 then 123 else 0
def opn (c : Int) : Bool := c == 40 || c == 91 || c == 123
def dep (s : ByteArray) (own other : Int) (n : Int) (i : Nat) : Int := n + (if bt s i = own then 1 else 0) - (if bt s i = other then 1 else 0)
def mtU (s : ByteArray) (own other : Int) : Nat → Int → Nat → Int
 | 0, _, _ => -1
 | f + 1, n, i => if i < s.size then (if dep s own other n i = 0 then (i : Int) else mtU s own other f (dep s own other n i) (i + 1)) else -1
def mtD (s : ByteArray) (own other : Int) : Int → Nat → Int
 | _, 0 => -1
 | n, j + 1 => if dep s own other n j = 0 then (j : Int) else mtD s own other (dep s own other n j) j
def mtch (s : ByteArray) (p : Nat) : Int :=
 if opn (bt s p) = true then mtU s (bt s p) (prt (bt s p)) (s.size - p) 0 p else mtD s (bt s p) (prt (bt s p)) 0 (p + 1)
def nobr (s : ByteArray) (i : Nat) : Bool := prt (bt s i) == 0
def pairWay (s : ByteArray) (p : Nat) : Int × Int × Bool :=
 if up (nobr s) (fin s p) p < fin s p then (mtch s (up (nobr s) (fin s p) p), 1, decide (mtch s (up (nobr s) (fin s p) p) < 0)) else (0, 0, true)
theorem mtU_lt {s : ByteArray} {a b : Int} : ∀ f n i, mtU s a b f n i < s.size ∧ -1 ≤ mtU s a b f n i := by
 intro f
 induction f with
 | zero => intro n i; simp only [mtU]; omega
 | succ f ih =>
  intro n i; simp only [mtU]; split
  ·split
   ·omega
   ·exact ih _ _
  ·omega
theorem mtD_lt {s : ByteArray} {a b : Int} : ∀ j n, mtD s a b n j < j ∧ -1 ≤ mtD s a b n j := by
 intro j
 induction j with
 | zero => intro n; simp only [mtD]; omega
 | succ j ih =>
  intro n; simp only [mtD]; split
  ·omega
  ·have := ih (dep s a b n j); omega
theorem mtch_lt {s : ByteArray} {p : Nat} (h : p < s.size) : mtch s p < s.size ∧ -1 ≤ mtch s p := by
 unfold mtch; split
 ·exact mtU_lt _ _ _
 ·have := mtD_lt (s := s) (a := bt s p) (b := prt (bt s p)) (p + 1) 0; omega
def wayH (s : ByteArray) (p n : Nat) : Int × Int × Bool := (if (p : Int) - n < beg s p then (beg s p : Int) else (p : Int) - n, 0, (p : Int) == (beg s p : Int))
def mostL (s : ByteArray) (p : Nat) (v : Bool) : Nat := if v = true then fin s p else lst s p
def wayL (s : ByteArray) (p n : Nat) (v : Bool) : Int × Int × Bool :=
 (if (mostL s p v : Int) < (p : Int) + n then (mostL s p v : Int) else (p : Int) + n, 0, decide ((if (mostL s p v : Int) < (p : Int) + n then (mostL s p v : Int) else (p : Int) + n) ≤ (p : Int)))
def wayEol (s : ByteArray) (p n : Nat) : Int × Int × Bool :=
 if (lns s : Int) ≤ (lin s p : Int) + n - 1 then (0, 0, true)
 else ((lst s (att s (lin s p + n - 1)) : Int), if emp s (lst s (att s (lin s p + n - 1))) = true then 0 else 1, false)
def wayB (s : ByteArray) (p n : Nat) (g : Bool) : Int × Int × Bool := ((itr (bstep s g) n p : Int), 0, (p : Int) == 0)
def goWay (s : ByteArray) (p : Nat) (key c : Int) (n : Nat) (given v b : Bool) : Int × Int × Bool :=
 if key = 104 then wayH s p n else if key = 108 then wayL s p n v
 else if key = 48 then ((beg s p : Int), 0, false) else if key = 94 then ((frs s p : Int), 0, false)
 else if key = 36 then wayEol s p n
 else if key = 106 ∨ key = 107 ∨ key = 71 ∨ key = 103 then lineWay s p key n given
 else if key = 119 ∨ key = 87 then ((wordQ s p n (key == 87) v : Int), 0, (wordQ s p n (key == 87) v : Int) == (p : Int))
 else if key = 98 ∨ key = 66 then wayB s p n (key == 66)
 else if key = 101 ∨ key = 69 then endWay s (key == 69) n p
 else if key = 102 ∨ key = 116 ∨ key = 70 ∨ key = 84 then byteWay s p key c n (frm key b)
 else if key = 125 ∨ key = 123 then ((parQ s p n (key == 125) v : Int), 0, (parQ s p n (key == 125) v : Int) == (p : Int))
 else pairWay s p
theorem lst_in {s : ByteArray} {p : Nat} (h : p ≤ s.size) : beg s p ≤ lst s p ∧ lst s p ≤ fin s p := by
 have := fin_ge s p; have := beg_le s p
 unfold lst; split <;> omega
structure Cmd where
 more : Bool
 bad : Bool
 reg : Int
 n : Int
 given : Bool
 verb : Int
 twice : Bool
 object : Int
 around : Bool
 way : Int
 other : Int
 c : Int
def cMore : Cmd := ⟨true, false, 0, 0, false, 0, false, 0, false, 0, 0, 0⟩
def cBad : Cmd := ⟨false, true, 0, 0, false, 0, false, 0, false, 0, 0, 0⟩
def mem (s : ByteArray) (c : Int) : Bool := decide (up (fun i => bt s i != c) s.size 0 < s.size)
def isDig (s : ByteArray) (n a : Nat) : Bool := decide ((49 ≤ bt s a ∧ bt s a ≤ 57) ∨ (bt s a = 48 ∧ 0 < n))
def numF (s : ByteArray) : Nat → Nat → Nat → Nat × Nat
 | 0, n, a => (n, a)
 | f + 1, n, a => if a < s.size ∧ isDig s n a = true then numF s f (if 99 < n * 10 + (bt s a - 48).toNat then 99 else n * 10 + (bt s a - 48).toNat) (a + 1) else (n, a)
def num (s : ByteArray) (a : Nat) : Nat × Nat := numF s (s.size - a) 0 a
def kWays : ByteArray := ⟨#[104, 106, 107, 108, 48, 94, 36, 71, 119, 87, 98, 66, 101, 69, 59, 44, 123, 125, 37]⟩
def kFind : ByteArray := ⟨#[102, 116, 70, 84]⟩
def kObjs : ByteArray := ⟨#[119, 87, 40, 41, 91, 93, 123, 125, 34, 39, 112]⟩
def kVerbs : ByteArray := ⟨#[100, 99, 121, 60, 62]⟩
def kOther : ByteArray := ⟨#[120, 88, 68, 67, 115, 83, 89, 112, 80, 74, 126, 105, 73, 97, 65, 111, 79, 118, 86, 117, 46]⟩
def kMark : ByteArray := ⟨#[100, 120, 99, 115, 121, 60, 62, 117, 85, 111, 118, 86]⟩
def cW (x : Cmd) (c : Int) : Cmd := { x with way := c }
def cWC (x : Cmd) (c b : Int) : Cmd := { x with way := c, c := b }
def cOb (x : Cmd) (o : Int) (a : Bool) : Cmd := { x with object := o, around := a }
def cO (x : Cmd) (c : Int) : Cmd := { x with other := c }
def cOC (x : Cmd) (c b : Int) : Cmd := { x with other := c, c := b }
def cV (x : Cmd) (v : Int) : Cmd := { x with verb := v }
def cVN (x : Cmd) (v n : Int) : Cmd := { x with verb := v, n := n, given := true }
def cT (x : Cmd) : Cmd := { x with twice := true }
def rdWay (x : Cmd) (c : Int) (rest : ByteArray) : Cmd :=
 if mem kWays c = true then cW x c
 else if mem kFind c = true then (if rest.size = 0 then cMore else cWC x c (bt rest 0))
 else if c = 103 then (if rest.size = 0 then cMore else if bt rest 0 = 103 then cW x c else cBad)
 else cBad
def rdObject (x : Cmd) (c : Int) (rest : ByteArray) : Cmd :=
 if rest.size = 0 then cMore else if mem kObjs (bt rest 0) = true then cOb x (bt rest 0) (c == 97) else cBad
def rdMarked (x : Cmd) (c : Int) (rest : ByteArray) : Cmd :=
 if c = 105 ∨ c = 97 then rdObject x c rest else if mem kMark c = true then cO x c else rdWay x c rest
def rdCount (x : Cmd) (verb : Int) (k : Nat) : Cmd :=
 if 0 < k then cVN x verb (if 99 < x.n * k then 99 else x.n * k) else cV x verb
def rdVerb (x : Cmd) (verb last : Int) (rest : ByteArray) : Cmd :=
 if (num rest 0).2 = rest.size then cMore
 else if bt rest (num rest 0).2 = last then cT (rdCount x verb (num rest 0).1)
 else if bt rest (num rest 0).2 = 105 ∨ bt rest (num rest 0).2 = 97 then rdObject (rdCount x verb (num rest 0).1) (bt rest (num rest 0).2) (rest.extract ((num rest 0).2 + 1) rest.size)
 else rdWay (rdCount x verb (num rest 0).1) (bt rest (num rest 0).2) (rest.extract ((num rest 0).2 + 1) rest.size)
def slotN (c : Int) : Int := if c = 34 then 26 else if 97 ≤ c ∧ c ≤ 122 then c - 97 else -1
def cMk (reg n : Int) (given : Bool) : Cmd := ⟨false, false, reg, n, given, 0, false, 0, false, 0, 0, 0⟩
def cHead (reg : Int) (k : Nat) : Cmd := cMk reg (if 0 < k then (k : Int) else 1) (decide (0 < k))
def rdNorm (x : Cmd) (c : Int) (rest : ByteArray) : Cmd :=
 if mem kVerbs c = true then rdVerb x c c rest
 else if c = 103 ∧ 0 < rest.size ∧ (bt rest 0 = 117 ∨ bt rest 0 = 85) then rdVerb x (bt rest 0) (bt rest 0) (rest.extract 1 rest.size)
 else if c = 114 then (if rest.size = 0 then cMore else cOC x c (bt rest 0))
 else if mem kOther c = true ∨ c = 18 then cO x c
 else rdWay x c rest
def rdBody (x : Cmd) (marked : Bool) (c : Int) (rest : ByteArray) : Cmd := if marked = true then rdMarked x c rest else rdNorm x c rest
def rdFrom (s : ByteArray) (marked : Bool) (reg : Int) (a : Nat) : Cmd :=
 if (num s a).2 = s.size then cMore else rdBody (cHead reg (num s a).1) marked (bt s (num s a).2) (s.extract ((num s a).2 + 1) s.size)
def rd (s : ByteArray) (marked : Bool) : Cmd :=
 if bt s 0 = 34 then (if s.size = 1 then cMore else if slotN (bt s 1) < 0 then cBad else rdFrom s marked (slotN (bt s 1)) 2) else rdFrom s marked (-1) 0
structure Ed where
 t : ByteArray
 p : Nat
 anchor : Nat
 mode : Int
 keys : ByteArray
 regS : Nat → ByteArray
 regL : Nat → Bool
 find : Int
 findC : Int
 done : List (ByteArray × ByteArray)
 undone : List (ByteArray × ByteArray)
 command : ByteArray
 written : ByteArray
 has : Bool
 before : ByteArray
 typed : ByteArray
 doing : ByteArray
 isDoing : Bool
def isFind (key : Int) : Bool := key == 102 || key == 116 || key == 70 || key == 84
def flp (key : Int) : Int := if key = 102 then 70 else if key = 70 then 102 else if key = 116 then 84 else if key = 84 then 116 else key
def isD (n : Nat) (c : Int) : Bool := decide ((49 ≤ c ∧ c ≤ 57) ∨ (c = 48 ∧ 0 < n))
def nextN (n : Nat) (c : Int) : Nat := if 99 < n * 10 + (c - 48).toNat then 99 else n * 10 + (c - 48).toNat
def AllNum (s : ByteArray) (n : Nat) : Prop := numF s s.size 0 0 = (n, s.size)
def sta (s : ByteArray) (x : Nat) : Prop := x = 0 ∨ (0 < x ∧ nl s (x - 1) = true)
theorem sta_inj {s : ByteArray} {x y : Nat} (hx : sta s x) (hy : sta s y) (h : lin s x = lin s y) : x = y := by
 have key : ∀ a b : Nat, sta s b → lin s a = lin s b → ¬ a < b := by
  intro a b hb h hl
  rcases hb with hb | ⟨hb, hn⟩
  ·omega
  ·obtain ⟨k, rfl⟩ : ∃ k, b = k + 1 := ⟨b - 1, by omega⟩
   have h1 := lin_mono (s := s) (a := a) (b := k) qo
   have h2 : lin s (k + 1) = lin s k + 1 := by simp only [lin]; rw [if_pos (by simpa using hn)]
   omega
 have h1 := key x y hy h
 have h2 := key y x hx h.symm
 omega
theorem sta_beg (s : ByteArray) (p : Nat) : sta s (beg s p) := by
 by_cases h : beg s p = 0
 ·exact Or.inl h
 ·exact Or.inr ⟨by omega, beg_nl qo⟩
theorem fin_lt_of {s : ByteArray} {m : Nat} (h : m + 1 < lns s) : fin s (att s m) < s.size := by
 have h1 := (att_in (s := s) (m := m + 1) h).1
 simp only [att] at h1; omega
theorem fin_last {s : ByteArray} {m : Nat} (h : m + 1 = lns s) : fin s (att s m) = s.size := by
 have h1 := att_in (s := s) (m := m) qo
 have h2 := fin_le (s := s) (p := att s m) h1.1
 by_cases h3 : fin s (att s m) < s.size
 ·have h4 := fin_nl h3
  have h5 : lin s (fin s (att s m) + 1) = lin s (fin s (att s m)) + 1 := by simp only [lin]; rw [if_pos h4]
  have h6 := lin_mono (s := s) (a := fin s (att s m) + 1) (b := s.size) qo
  rw [lin_fin] at h5
  unfold lns at h; omega
 ·omega
theorem sta_att {s : ByteArray} {m : Nat} (h : m < lns s) : sta s (att s m) := by
 cases m with
 | zero => exact Or.inl rfl
 | succ m => exact Or.inr ⟨by simp only [att]; omega, by simp only [att, Nat.add_sub_cancel]; exact fin_nl (fin_lt_of h)⟩
theorem beg_att {s : ByteArray} {m : Nat} (h : m < lns s) : beg s (att s m) = att s m :=
 sta_inj (sta_beg s _) (sta_att h) (lin_beg s _)
theorem beg_eq {s : ByteArray} {p : Nat} (h : p ≤ s.size) : beg s p = att s (lin s p) :=
 sta_inj (sta_beg s _) (sta_att (lin_lt h)) (by rw [lin_beg, (att_in (lin_lt h)).2])
theorem fin_beg (s : ByteArray) (p : Nat) (h : p ≤ s.size) : fin s (beg s p) = fin s p := by
 have hb := beg_le s p
 have hg := fin_ge s p
 refine up_eq qo (fin_le h) (fun i h1 h2 => ?_) (fun h1 => ?_)
 ·by_cases hi : i < p
  ·simp [beg_no h1 hi]
  ·simp [fin_no (s := s) (p := p) (i := i) qo h2]
 ·simp [fin_nl h1]
theorem fin_eq {s : ByteArray} {p : Nat} (h : p ≤ s.size) : fin s p = fin s (att s (lin s p)) := by rw [← beg_eq h, fin_beg s p h]
theorem line_up {s : ByteArray} {m : Nat} (h : m < lns s) (h0 : 0 < m) : beg s (att s m - 1) = att s (m - 1) ∧ fin s (att s m - 1) = fin s (att s (m - 1)) := by
 obtain ⟨k, rfl⟩ : ∃ k, m = k + 1 := ⟨m - 1, by omega⟩
 have hf := fin_lt_of h
 simp only [att, Nat.add_sub_cancel]
 have hl : lin s (fin s (att s k)) = k := by rw [lin_fin]; exact (att_in qo).2
 constructor
 ·rw [beg_eq qo, hl]
 ·rw [fin_eq qo, hl]
theorem line_down {s : ByteArray} {m : Nat} (h : m + 1 < lns s) : beg s (fin s (att s m) + 1) = att s (m + 1) ∧ fin s (fin s (att s m) + 1) = fin s (att s (m + 1)) := by
 have : fin s (att s m) + 1 = att s (m + 1) := rfl
 rw [this]
 exact ⟨beg_att h, rfl⟩
theorem att_pos {s : ByteArray} {m : Nat} (h0 : 0 < m) : 0 < att s m := by
 cases m with
 | zero => omega
 | succ m => simp only [att]; omega
theorem lst_max (s : ByteArray) (p : Nat) : ((lst s p : Nat) : Int) = max ((beg s p : Nat) : Int) (((fin s p : Nat) : Int) - 1) := by
 unfold lst; split <;> omega
def ind (s : ByteArray) (p : Nat) : Nat := up (fun i => blk (bt s i)) (fin s p) (beg s p)
theorem frs_min (s : ByteArray) (p : Nat) (h : p ≤ s.size) : ((frs s p : Nat) : Int) = min ((ind s p : Nat) : Int) ((lst s p : Nat) : Int) := by
 have h1 := beg_le s p
 have h2 := fin_ge s p
 have h3 : ind s p ≤ fin s p := up_le qo
 have h4 : beg s p ≤ ind s p := up_ge _ _ _
 unfold frs
 unfold ind at *
 split
 ·rename_i h5
  unfold lst; split <;> omega
 ·unfold lst; split <;> omega
def runB (s : ByteArray) (p : Nat) (g : Bool) : Nat := dn (like s p g) p
theorem runB_le (s : ByteArray) (p : Nat) (g : Bool) : runB s p g ≤ p := dn_le _ _
theorem wrun_le {s : ByteArray} {p : Nat} {g : Bool} (h : p ≤ s.size) : wrun s p g ≤ s.size := up_le h
theorem wrun_ge (s : ByteArray) (p : Nat) (g : Bool) : p ≤ wrun s p g := up_ge _ _ _
theorem lst_line {s : ByteArray} {m : Nat} (h : m < lns s) : lst s (att s m) = if att s m < fin s (att s m) then fin s (att s m) - 1 else att s m := by
 unfold lst; rw [beg_att h]
theorem lin_lst {s : ByteArray} {m : Nat} (h : m < lns s) : lin s (lst s (att s m)) = m := by
 have h1 := att_in h
 have h2 := fin_le h1.1
 rw [lst_line h]
 split
 ·rename_i h3
  have h4 : lin s (fin s (att s m) - 1) = lin s (att s m) := lin_flat qo (fun i h1 h2 => fin_no h1 qo)
  rw [h4, h1.2]
 ·exact h1.2
theorem emp_lst {s : ByteArray} {m : Nat} (h : m < lns s) : emp s (lst s (att s m)) = (((att s m : Nat) : Int) == ((fin s (att s m) : Nat) : Int)) := by
 have h1 := att_in h
 have h2 := fin_le h1.1
 have h3 := fin_ge s (att s m)
 have hl := lin_lst h
 have hle : lst s (att s m) ≤ s.size := lst_le h1.1
 unfold emp
 rw [beg_eq hle, fin_eq hle, hl, lst_line h, Bool.eq_iff_iff]
 simp only [Bool.and_eq_true, beq_iff_eq]
 split <;> omega
theorem emp_att {s : ByteArray} {m : Nat} (h : m < lns s) : emp s (att s m) = (((att s m : Nat) : Int) == ((fin s (att s m) : Nat) : Int)) := by
 unfold emp
 rw [beg_att h]
 generalize fin s (att s m) = F
 generalize att s m = A
 rw [Bool.eq_iff_iff]
 simp only [Bool.and_eq_true, beq_iff_eq, true_and]
 omega
theorem emp_no {s : ByteArray} {i : Nat} (h : i < s.size) (hn : nl s i = false) : emp s i = false := by
 have h1 : i + 1 ≤ fin s i := by
  unfold fin; rw [up_step h (by simp [hn])]; exact up_ge _ _ _
 unfold emp
 have : (fin s i == i) = false := by simp; omega
 rw [this, Bool.and_false]
theorem nl_spc {s : ByteArray} {i : Nat} (h : nl s i = true) : spc (bt s i) = true := by
 unfold nl at h
 unfold spc
 simp only [beq_iff_eq] at h
 simp [h]
theorem fin_att_no {s : ByteArray} {j i : Nat} (h1 : att s j ≤ i) (h2 : i < fin s (att s j)) : nl s i = false := fin_no h1 h2
theorem emp_fin {s : ByteArray} {j : Nat} (hj : j < lns s) (h : att s j < fin s (att s j)) : emp s (fin s (att s j)) = false := by
 have h1 := fin_le (att_in hj).1
 have hb : beg s (fin s (att s j)) = att s j := by rw [beg_eq h1, lin_fin, (att_in hj).2]
 unfold emp
 have : (beg s (fin s (att s j)) == fin s (att s j)) = false := by rw [hb]; simp; omega
 rw [this, Bool.false_and]
theorem emp_att_ne {s : ByteArray} {j : Nat} (hj : j < lns s) (h : emp s (att s j) = false) : att s j < fin s (att s j) := by
 have h3 := fin_ge s (att s j)
 rw [emp_att hj] at h
 simp at h
 omega
theorem spc_nl_f {s : ByteArray} {i : Nat} (h : spc (bt s i) = false) : nl s i = false := by
 cases hn : nl s i with
 | false => rfl
 | true => rw [nl_spc hn] at h; exact absurd h qi
theorem emp_behind {s : ByteArray} {q : Nat} (h0 : 0 < q) (hn : nl s (q - 1) = false) : emp s q = false := by
 obtain ⟨k, rfl⟩ : ∃ k, q = k + 1 := ⟨q - 1, by omega⟩
 have h1 : beg s (k + 1) ≤ k := by
  unfold beg
  simp only [Nat.add_sub_cancel] at hn
  rw [dn_step (by simp [hn])]
  exact dn_le _ _
 unfold emp
 have : (beg s (k + 1) == k + 1) = false := by simp; omega
 rw [this, Bool.false_and]
theorem wrun_nsp {s : ByteArray} {r i : Nat} {g : Bool} (h0 : spc (bt s r) = false) (h1 : r ≤ i) (h2 : i < wrun s r g) : spc (bt s i) = false := by
 have h := up_all (c := like s r g) (n := s.size) h1 h2
 unfold like at h
 simp only [beq_iff_eq] at h
 have h3 := cls_nsp (g := g) h0
 cases hs : spc (bt s i) with
 | false => rfl
 | true => have := cls_spc (g := g) hs; omega
theorem wrun_gt {s : ByteArray} {r : Nat} {g : Bool} (h : r < s.size) : r < wrun s r g := by
 have h1 : up (like s r g) s.size r = up (like s r g) s.size (r + 1) := up_step h (like_self s r g)
 have h2 : r + 1 ≤ up (like s r g) s.size (r + 1) := up_ge (like s r g) s.size (r + 1)
 have h3 : wrun s r g = up (like s r g) s.size r := rfl
 omega
theorem emp_wfrom {s : ByteArray} {r : Nat} {g : Bool} (h : wfrom s r g ≠ r) : emp s (wfrom s r g) = false := by
 unfold wfrom at *
 split at h
 ·rename_i hc
  rw [if_pos hc]
  have hg := wrun_gt (g := g) hc.1
  exact emp_behind qo (spc_nl_f (wrun_nsp (g := g) hc.2 qo qo))
 ·exact absurd rfl h
theorem wgap1 (s : ByteArray) (r i : Nat) (h : spc (bt s i) = false) : wgap s r i = false := by unfold wgap; rw [h, Bool.false_and]
theorem wgap2 (s : ByteArray) (r i : Nat) (g : Bool) (h : spc (bt s i) = true) (h2 : emp s i = false ∨ i = wfrom s r g) : wgap s r i = true := by
 unfold wgap
 rw [h, Bool.true_and]
 rcases h2 with h2 | h2
 ·rw [h2]; rfl
 ·by_cases e : i = r
  ·subst e; simp
  ·have := emp_wfrom (s := s) (r := r) (g := g) qo
   rw [h2, this]; rfl
theorem wgap3 (s : ByteArray) (r i : Nat) (g : Bool) (h : wfrom s r g < i) (h2 : emp s i = true) : wgap s r i = false := by
 have := wfrom_ge s r g
 unfold wgap
 have e : (i != r) = true := by simp; omega
 rw [h2, e]; simp
theorem lst_size (s : ByteArray) : lst s s.size = if beg s s.size < s.size then s.size - 1 else s.size := by
 have h1 : fin s s.size = s.size := Nat.le_antisymm (fin_le (Nat.le_refl _)) (fin_ge _ _)
 have h2 := beg_le s s.size
 unfold lst; rw [h1]; split
 ·rfl
 ·omega
theorem clm_word {s : ByteArray} {r : Nat} {g : Bool} (h : r ≤ s.size) : ((clm s (wstep s g r) : Nat) : Int) = if ((lst s s.size : Nat) : Int) < ((wstep s g r : Nat) : Int) then ((lst s s.size : Nat) : Int) else ((wstep s g r : Nat) : Int) := by
 have hle := wstep_le (g := g) h
 by_cases he : wstep s g r = s.size
 ·rw [he]; unfold clm; split <;> split <;> first | rfl | omega
 ·have hlt : wstep s g r < s.size := by omega
  have hg : wgap s r (wstep s g r) = false := up_end (c := wgap s r) (n := s.size) (p := wfrom s r g) hlt
  have hc : clm s (wstep s g r) = wstep s g r := by
   unfold clm
   rw [if_neg]
   generalize wstep s g r = q at *
   unfold wgap at hg
   cases hs : spc (bt s q) with
   | false =>
    have hn := spc_nl_f hs
    have h1 : q + 1 ≤ fin s q := by unfold fin; rw [up_step hlt (by simp [hn])]; exact up_ge _ _ _
    have h2 := beg_le s q
    unfold lst; split <;> omega
   | true =>
    rw [hs, Bool.true_and] at hg
    have he : emp s q = true := by
     cases hq : emp s q with
     | true => rfl
     | false => rw [hq] at hg; simp at hg
    unfold emp at he
    simp only [Bool.and_eq_true, beq_iff_eq] at he
    unfold lst; split <;> omega
  rw [hc, if_neg]
  rw [lst_size]; split <;> omega
def isPlain (key : Int) : Bool := key == 104 || key == 108 || key == 48 || key == 94 || key == 36 || key == 106 || key == 107 || key == 71 || key == 119 || key == 87 || key == 98 || key == 66 || key == 101 || key == 69 || key == 125 || key == 123 || key == 37
def isMk (c : Int) : Bool := c == 118 || c == 86
structure Row1 (c : Int) : Prop where
 verbs : mem kVerbs c = false
 n34 : c ≠ 34
 n114 : c ≠ 114
 n18 : c ≠ 18
 n105 : c ≠ 105
 n97 : c ≠ 97
 n117 : c ≠ 117
 n85 : c ≠ 85
 other : mem kOther c = isMk c
 mark : mem kMark c = isMk c
 find : mem kFind c = isFind c
 ways : mem kWays c = (isPlain c || c == 59 || c == 44)
def Beg (keys : ByteArray) (n : Nat) (part : Int) : Prop :=
 (AllNum keys n ∧ part = 0) ∨ ∃ (ds : ByteArray) (c : UInt8), keys = ds ++ ⟨#[c]⟩ ∧ AllNum ds n ∧ part = c.toNat ∧ (isFind c.toNat = true ∨ (c.toNat : Int) = 103)
theorem Beg.num {keys : ByteArray} {n : Nat} (h : Beg keys n 0) : AllNum keys n := by
 rcases h with h | ⟨ds, c, _, h, h1, h2⟩
 ·exact h.1
 ·simp only [isFind, Bool.or_eq_true, beq_iff_eq] at h2; omega
section
variable {keys : ByteArray} {n : Nat} {u : UInt8} (m : Bool)
end
theorem frs_le {s : ByteArray} {p : Nat} (h : p ≤ s.size) : frs s p ≤ s.size := by
  have h1 := lst_le h
  have h2 := beg_le s p
  have h3 := fin_le h
  have h4 := fin_ge s p
  unfold frs
  first
    | (split
       · omega
       · exact up_le qo)
    | (have := up_le (c := fun i => blk (bt s i)) (n := fin s p) (p := beg s p) qo; (repeat' split) <;> omega)
theorem wayH_in {s : ByteArray} {p n : Nat} (hp : p ≤ s.size) : 0 ≤ (wayH s p n).1 ∧ (wayH s p n).1 ≤ s.size := by
 have := beg_le s p
 simp only [wayH]; split <;> omega
theorem wayL_in {s : ByteArray} {p n : Nat} (hp : p ≤ s.size) : 0 ≤ (wayL s p n false).1 ∧ (wayL s p n false).1 ≤ s.size := by
 have := lst_le hp
 simp only [wayL, mostL, Bool.false_eq_true, if_false]; split <;> omega
theorem wayEol_in {s : ByteArray} {p n : Nat} (hn : 1 ≤ n) : 0 ≤ (wayEol s p n).1 ∧ (wayEol s p n).1 ≤ s.size := by
 simp only [wayEol]; split
 ·omega
 ·have := lst_le (att_in (s := s) (m := lin s p + n - 1) qo).1
  omega
theorem lineTo_in {s : ByteArray} {p : Nat} (m : Int) : 0 ≤ (lineTo s p m).1 ∧ (lineTo s p m).1 ≤ s.size := by
 have := beg_le s p
 simp only [lineTo]; split
 ·omega
 ·have := lst_le (att_in (s := s) (m := m.toNat) qo).1
  simp only
  split <;> omega
theorem lineNo_in {s : ByteArray} (m : Int) : 0 ≤ (lineNo s m).1 ∧ (lineNo s m).1 ≤ s.size := by
 have h1 := lns_pos s
 have := frs_le (att_in (s := s) (m := (if (lns s : Int) ≤ m then (lns s : Int) - 1 else m).toNat) (by split <;> omega)).1
 simp only [lineNo]; omega
theorem lineWay_in {s : ByteArray} {p : Nat} (key : Int) (n : Nat) (given : Bool) : 0 ≤ (lineWay s p key n given).1 ∧ (lineWay s p key n given).1 ≤ s.size := by
 unfold lineWay
 split
 ·exact lineTo_in _
 ·split
  ·exact lineTo_in _
  ·exact lineNo_in _
theorem clm_in {s : ByteArray} {p : Nat} (h : p ≤ s.size) : clm s p ≤ s.size := Nat.le_trans (clm_le s p) h
theorem eitr_pos {s : ByteArray} {r : Int} {g : Bool} (h0 : 0 ≤ r) (n : Nat) : 0 ≤ eitr s g n r := by
 induction n with
 | zero => exact h0
 | succ n ih => simp only [eitr]; split <;> omega
theorem endWay_in {s : ByteArray} {p n : Nat} (g : Bool) (hp : p ≤ s.size) : 0 ≤ (endWay s g n p).1 ∧ (endWay s g n p).1 ≤ s.size := by
 unfold endWay; split
 ·simp only; omega
 ·have := eitr_lt (s := s) (r := p) (g := g) qo qo n
  have := eitr_pos (s := s) (r := p) (g := g) qo n
  simp only; omega
theorem byteWay_in {s : ByteArray} {p n f : Nat} (key c : Int) (hp : p ≤ s.size) (hf : 1 ≤ f) : 0 ≤ (byteWay s p key c n f).1 ∧ (byteWay s p key c n f).1 ≤ s.size := by
 have h3 := fin_le hp
 have hU : ∀ d, -1 ≤ d → d ≤ 0 → 0 ≤ (resU d (fndU s c (fin s p) (fin s p - (p + f)) n (p + f))).1 ∧ (resU d (fndU s c (fin s p) (fin s p - (p + f)) n (p + f))).1 ≤ s.size := by
  intro d h1 h2
  cases hh : fndU s c (fin s p) (fin s p - (p + f)) n (p + f) with
  | none => simp only [resU]; omega
  | some q => have := fndU_lt _ _ _ _ hh; simp only [resU]; omega
 have hD : ∀ d, 0 ≤ d → d ≤ 1 → 0 ≤ (resD d (fndD s c (beg s p) n (p + 1 - f))).1 ∧ (resD d (fndD s c (beg s p) n (p + 1 - f))).1 ≤ s.size := by
  intro d h1 h2
  cases hh : fndD s c (beg s p) n (p + 1 - f) with
  | none => simp only [resD]; omega
  | some q => have := fndD_lt _ _ _ hh; simp only [resD]; omega
 unfold byteWay
 split
 ·exact hU 0 qo qo
 ·split
  ·exact hU (-1) qo qo
  ·split
   ·exact hD 0 qo qo
   ·exact hD 1 qo qo
theorem pairWay_in {s : ByteArray} {p : Nat} (hp : p ≤ s.size) (h : (pairWay s p).2.2 = false) : 0 ≤ (pairWay s p).1 ∧ (pairWay s p).1 ≤ s.size := by
 have h3 := fin_le hp
 revert h
 unfold pairWay
 split
 ·intro h
  have := mtch_lt (s := s) (p := up (nobr s) (fin s p) p) qo
  simp only [decide_eq_false_iff_not] at h
  simp only; omega
 ·simp only; intro h; exact Bool.noConfusion h
theorem frm_pos (key : Int) (b : Bool) : 1 ≤ frm key b := by unfold frm; split <;> omega
theorem goWay_in {s : ByteArray} {p n : Nat} (key c : Int) (given b : Bool) (hp : p ≤ s.size) (hn : 1 ≤ n) (h : (goWay s p key c n given false b).2.2 = false) :
  0 ≤ (goWay s p key c n given false b).1 ∧ (goWay s p key c n given false b).1 ≤ s.size := by
 revert h
 unfold goWay
 (repeat' split) <;> intro h
 ·exact wayH_in hp
 ·exact wayL_in hp
 ·have := beg_le s p; simp only; omega
 ·have := frs_le hp; simp only; omega
 ·exact wayEol_in hn
 ·exact lineWay_in _ _ _
 ·have := clm_in (itr_w_le (g := key == 87) hp n); simp only [wordQ, Bool.false_eq_true, if_false]; omega
 ·have := itr_b_le (s := s) (p := p) (g := key == 66) n; simp only [wayB]; omega
 ·exact endWay_in _ hp
 ·exact byteWay_in _ _ hp (frm_pos _ _)
 ·have := clm_in (itr_p_le (down := key == 125) hp n); simp only [parQ, Bool.false_eq_true, if_false]; omega
 ·exact pairWay_in hp h
end Go.Proofs.YtlendfhehhacpaaGreat.Nib
namespace Go.Proofs.YtlendfhehhacpaaGreat.Nib
open Go
theorem getb {s : ByteArray} {i : Nat} (h : i < s.size) : s.get! i = s[i]'h := get_at s i h
theorem dec_high {s : ByteArray} {i : Nat} (h : i < s.size) (ha : 128 ≤ (s[i]'h).toNat) :
  i + (Utf8.decode s i).2 ≤ s.size ∧ ∀ j, (hj : j < s.size) → i ≤ j → j < i + (Utf8.decode s i).2 → 128 ≤ (s[j]'hj).toNat := by
 rw [← getb h] at ha
 rw [Lib.decode_at]
 have e : ∀ j (hj : j < s.size), (s[j]'hj) = s.get! j := fun j hj => (getb hj).symm
 unfold Lib.decodeN
 repeat' split
 all_goals simp only
 all_goals refine ⟨by omega, fun j hj h1 h2 => ?_⟩
 all_goals rw [e j hj]
 all_goals first
  | omega
  | (rcases (by omega : j = i ∨ j = i + 1 ∨ j = i + 2 ∨ j = i + 3) with hq | hq | hq | hq <;> rw [hq] <;> omega)
theorem dec_valid {s : ByteArray} {i : Nat} : (Utf8.decode s i).1 ≤ 1114111 ∧ ((Utf8.decode s i).1 < 55296 ∨ 57344 ≤ (Utf8.decode s i).1) := by
 rw [Lib.decode_at]
 have h0 := (s.get! i).toNat_lt
 have h1 := (s.get! (i + 1)).toNat_lt
 unfold Lib.decodeN
 repeat' split
 all_goals simp only
 all_goals omega
theorem enc2 (r : Nat) (c1 : ¬ r < 128) (c2 : r < 2048) : (Utf8.encode (r : Int)).data.toList = [UInt8.ofNat (192 + r / 64), UInt8.ofNat (128 + r % 64)] := by
 have v : Utf8.valid (r : Int) = true := by simp [Utf8.valid]; omega
 simp [Utf8.encode, v, c1, c2]
theorem enc3 (r : Nat) (c2 : ¬ r < 2048) (c3 : r < 65536) (hv : r < 55296 ∨ 57344 ≤ r) : (Utf8.encode (r : Int)).data.toList = [UInt8.ofNat (224 + r / 4096), UInt8.ofNat (128 + r / 64 % 64), UInt8.ofNat (128 + r % 64)] := by
 have v : Utf8.valid (r : Int) = true := by simp [Utf8.valid]; omega
 have c1 : ¬ r < 128 := by omega
 simp [Utf8.encode, v, c1, c2, c3]
theorem enc4 (r : Nat) (c3 : ¬ r < 65536) (c4 : r ≤ 1114111) : (Utf8.encode (r : Int)).data.toList = [UInt8.ofNat (240 + r / 262144), UInt8.ofNat (128 + r / 4096 % 64), UInt8.ofNat (128 + r / 64 % 64), UInt8.ofNat (128 + r % 64)] := by
 have v : Utf8.valid (r : Int) = true := by simp [Utf8.valid]; omega
 have c1 : ¬ r < 128 := by omega
 have c2 : ¬ r < 2048 := by omega
 simp [Utf8.encode, v, c1, c2, c3]
theorem size_list (b : ByteArray) : b.size = b.data.toList.length := by
 show b.data.size = _
 rw [Array.length_toList]
theorem last_list {b : ByteArray} {l : List UInt8} {c : UInt8} (e : b.data.toList = l ++ [c]) (hc : 128 ≤ c.toNat) (k : Nat) (hk : k < b.size) (h1 : k + 1 = b.size) : 128 ≤ (b[k]'hk).toNat := by
 have hl := size_list b
 rw [e] at hl
 simp at hl
 have : k = l.length := by omega
 subst this
 have hg : b[l.length]'hk = b.data.toList[l.length]'(by rw [← size_list]; exact hk) := by simp [ByteArray.getElem_eq_getElem_data]
 rw [hg]
 simp [e, hc]
theorem cont_ge (n : Nat) : 128 ≤ (UInt8.ofNat (128 + n % 64)).toNat := by
 simp; omega
theorem enc_last (r : Nat) (h : 128 ≤ r) (hv : r ≤ 1114111 ∧ (r < 55296 ∨ 57344 ≤ r)) :
  ∃ l : List UInt8, ∃ c : UInt8, (Utf8.encode (r : Int)).data.toList = l ++ [c] ∧ 1 ≤ l.length ∧ l.length ≤ 3 ∧ 128 ≤ c.toNat := by
 by_cases c2 : r < 2048
 ·exact ⟨[UInt8.ofNat (192 + r / 64)], UInt8.ofNat (128 + r % 64), enc2 r (by omega) c2, by simp, by simp, cont_ge r⟩
 ·by_cases c3 : r < 65536
  ·exact ⟨[UInt8.ofNat (224 + r / 4096), UInt8.ofNat (128 + r / 64 % 64)], UInt8.ofNat (128 + r % 64), enc3 r c2 c3 hv.2, by simp, by simp, cont_ge r⟩
  ·exact ⟨[UInt8.ofNat (240 + r / 262144), UInt8.ofNat (128 + r / 4096 % 64), UInt8.ofNat (128 + r / 64 % 64)], UInt8.ofNat (128 + r % 64), enc4 r c3 hv.1, by simp, by simp, cont_ge r⟩
end Go.Proofs.YtlendfhehhacpaaGreat.Nib
