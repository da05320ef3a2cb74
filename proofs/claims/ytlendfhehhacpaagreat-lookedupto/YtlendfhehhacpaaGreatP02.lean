/- Joined of the texts PureF, PureG, PureQ, PureH, PureI, PureJ, PureK, PureL, PureM. -/
import Derived.Test.YtlendfhehhacpaaGreatP01
import Derived.Laws.Externs
set_option linter.unusedVariables false
set_option linter.unusedSimpArgs false
set_option maxRecDepth 100000
set_option maxHeartbeats 8000000
namespace Go.Proofs.YtlendfhehhacpaaGreat.Nib
structure Cmd where
  more : Bool
  bad : Bool
  reg : Int
  n : Int
  given : Bool
  verb : Int
  twice : Bool
  object : Int
  around : Bool
  way : Int
  other : Int
  c : Int
def cMore : Cmd := ⟨true, false, 0, 0, false, 0, false, 0, false, 0, 0, 0⟩
def cBad : Cmd := ⟨false, true, 0, 0, false, 0, false, 0, false, 0, 0, 0⟩
def mem (s : ByteArray) (c : Int) : Bool := decide (up (fun i => bt s i != c) s.size 0 < s.size)
def isDig (s : ByteArray) (n a : Nat) : Bool := decide ((49 ≤ bt s a ∧ bt s a ≤ 57) ∨ (bt s a = 48 ∧ 0 < n))
def numF (s : ByteArray) : Nat → Nat → Nat → Nat × Nat
  | 0, n, a => (n, a)
  | f + 1, n, a => if a < s.size ∧ isDig s n a = true then numF s f (if 99 < n * 10 + (bt s a - 48).toNat then 99 else n * 10 + (bt s a - 48).toNat) (a + 1) else (n, a)
def num (s : ByteArray) (a : Nat) : Nat × Nat := numF s (s.size - a) 0 a
def kWays : ByteArray := ⟨#[104, 106, 107, 108, 48, 94, 36, 71, 119, 87, 98, 66, 101, 69, 59, 44, 123, 125, 37]⟩
def kFind : ByteArray := ⟨#[102, 116, 70, 84]⟩
def kObjs : ByteArray := ⟨#[119, 87, 40, 41, 91, 93, 123, 125, 34, 39, 112]⟩
def kVerbs : ByteArray := ⟨#[100, 99, 121, 60, 62]⟩
def kOther : ByteArray := ⟨#[120, 88, 68, 67, 115, 83, 89, 112, 80, 74, 126, 105, 73, 97, 65, 111, 79, 118, 86, 117, 46]⟩
def kMark : ByteArray := ⟨#[100, 120, 99, 115, 121, 60, 62, 117, 85, 111, 118, 86]⟩
def cW (x : Cmd) (c : Int) : Cmd := { x with way := c }
def cWC (x : Cmd) (c b : Int) : Cmd := { x with way := c, c := b }
def cOb (x : Cmd) (o : Int) (a : Bool) : Cmd := { x with object := o, around := a }
def cO (x : Cmd) (c : Int) : Cmd := { x with other := c }
def cOC (x : Cmd) (c b : Int) : Cmd := { x with other := c, c := b }
def cV (x : Cmd) (v : Int) : Cmd := { x with verb := v }
def cVN (x : Cmd) (v n : Int) : Cmd := { x with verb := v, n := n, given := true }
def cT (x : Cmd) : Cmd := { x with twice := true }
def rdWay (x : Cmd) (c : Int) (rest : ByteArray) : Cmd :=
  if mem kWays c = true then cW x c
  else if mem kFind c = true then (if rest.size = 0 then cMore else cWC x c (bt rest 0))
  else if c = 103 then (if rest.size = 0 then cMore else if bt rest 0 = 103 then cW x c else cBad)
  else cBad
def rdObject (x : Cmd) (c : Int) (rest : ByteArray) : Cmd :=
  if rest.size = 0 then cMore else if mem kObjs (bt rest 0) = true then cOb x (bt rest 0) (c == 97) else cBad
def rdMarked (x : Cmd) (c : Int) (rest : ByteArray) : Cmd :=
  if c = 105 ∨ c = 97 then rdObject x c rest else if mem kMark c = true then cO x c else rdWay x c rest
def rdCount (x : Cmd) (verb : Int) (k : Nat) : Cmd :=
  if 0 < k then cVN x verb (if 99 < x.n * k then 99 else x.n * k) else cV x verb
def rdVerb (x : Cmd) (verb last : Int) (rest : ByteArray) : Cmd :=
  if (num rest 0).2 = rest.size then cMore
  else if bt rest (num rest 0).2 = last then cT (rdCount x verb (num rest 0).1)
  else if bt rest (num rest 0).2 = 105 ∨ bt rest (num rest 0).2 = 97 then rdObject (rdCount x verb (num rest 0).1) (bt rest (num rest 0).2) (rest.extract ((num rest 0).2 + 1) rest.size)
  else rdWay (rdCount x verb (num rest 0).1) (bt rest (num rest 0).2) (rest.extract ((num rest 0).2 + 1) rest.size)
def slotN (c : Int) : Int := if c = 34 then 26 else if 97 ≤ c ∧ c ≤ 122 then c - 97 else -1
def cMk (reg n : Int) (given : Bool) : Cmd := ⟨false, false, reg, n, given, 0, false, 0, false, 0, 0, 0⟩
def cHead (reg : Int) (k : Nat) : Cmd := cMk reg (if 0 < k then (k : Int) else 1) (decide (0 < k))
def rdNorm (x : Cmd) (c : Int) (rest : ByteArray) : Cmd :=
  if mem kVerbs c = true then rdVerb x c c rest
  else if c = 103 ∧ 0 < rest.size ∧ (bt rest 0 = 117 ∨ bt rest 0 = 85) then rdVerb x (bt rest 0) (bt rest 0) (rest.extract 1 rest.size)
  else if c = 114 then (if rest.size = 0 then cMore else cOC x c (bt rest 0))
  else if mem kOther c = true ∨ c = 18 then cO x c
  else rdWay x c rest
def rdBody (x : Cmd) (marked : Bool) (c : Int) (rest : ByteArray) : Cmd := if marked = true then rdMarked x c rest else rdNorm x c rest
def rdFrom (s : ByteArray) (marked : Bool) (reg : Int) (a : Nat) : Cmd :=
  if (num s a).2 = s.size then cMore else rdBody (cHead reg (num s a).1) marked (bt s (num s a).2) (s.extract ((num s a).2 + 1) s.size)
def rd (s : ByteArray) (marked : Bool) : Cmd :=
  if bt s 0 = 34 then (if s.size = 1 then cMore else if slotN (bt s 1) < 0 then cBad else rdFrom s marked (slotN (bt s 1)) 2) else rdFrom s marked (-1) 0
structure Ed where
  t : ByteArray
  p : Nat
  anchor : Nat
  mode : Int
  keys : ByteArray
  regS : Nat → ByteArray
  regL : Nat → Bool
  find : Int
  findC : Int
  done : List (ByteArray × ByteArray)
  undone : List (ByteArray × ByteArray)
  command : ByteArray
  written : ByteArray
  has : Bool
  before : ByteArray
  typed : ByteArray
  doing : ByteArray
  isDoing : Bool
def isFind (key : Int) : Bool := key == 102 || key == 116 || key == 70 || key == 84
def flp (key : Int) : Int := if key = 102 then 70 else if key = 70 then 102 else if key = 116 then 84 else if key = 84 then 116 else key
def isD (n : Nat) (c : Int) : Bool := decide ((49 ≤ c ∧ c ≤ 57) ∨ (c = 48 ∧ 0 < n))
def nextN (n : Nat) (c : Int) : Nat := if 99 < n * 10 + (c - 48).toNat then 99 else n * 10 + (c - 48).toNat
def AllNum (s : ByteArray) (n : Nat) : Prop := numF s s.size 0 0 = (n, s.size)
theorem bt_cut {s : ByteArray} {a b i : Nat} (hb : b ≤ s.size) (h : a + i < b) : bt (s.extract a b) i = bt s (a + i) := by
  have h1 : i < (s.extract a b).size := by rw [ByteArray.size_extract]; omega
  rw [bt_in h1, bt_in (by omega), ByteArray.getElem_extract]
theorem first_up (s : ByteArray) (c : Int) (h0 : 0 ≤ c) (h1 : c < 256) :
    Go.firstIdx s c.toNat.toUInt8 = if up (fun i => bt s i != c) s.size 0 < s.size then ((up (fun i => bt s i != c) s.size 0 : Nat) : Int) else -1 := by
  have hq : ∀ i, i < s.size → ((s[i]! == c.toNat.toUInt8) = (bt s i == c)) := by
    intro i hi
    rw [getElem!_pos s i hi, bt_in hi, Bool.eq_iff_iff]
    simp only [beq_iff_eq]
    constructor
    · intro h
      rw [h]
      simp only [Nat.toUInt8, UInt8.ofNat, UInt8.toNat, BitVec.toNat_ofNat]
      omega
    · intro h
      apply UInt8.toNat_inj.1
      simp only [Nat.toUInt8, UInt8.ofNat, UInt8.toNat, BitVec.toNat_ofNat]
      simp only [UInt8.toNat] at h
      omega
  unfold Go.firstIdx
  cases hf : (List.range s.size).find? (fun i => s[i]! == c.toNat.toUInt8) with
  | none =>
    rw [List.find?_range_eq_none] at hf
    have hu : up (fun i => bt s i != c) s.size 0 = s.size := up_eq (Nat.zero_le _) (Nat.le_refl _) (fun i _ hi => by have := hf i hi; rw [hq i hi] at this; simpa using this) (fun h => absurd h (Nat.lt_irrefl _))
    rw [hu, if_neg (Nat.lt_irrefl _)]
  | some k =>
    rw [List.find?_range_eq_some] at hf
    obtain ⟨hk, hm, hl⟩ := hf
    have hm' : k < s.size := List.mem_range.1 hm
    have hu : up (fun i => bt s i != c) s.size 0 = k := up_eq (Nat.zero_le _) (Nat.le_of_lt hm') (fun i _ hi => by have := hl i hi; rw [hq i (by omega)] at this; simpa using this) (fun _ => by rw [hq k hm'] at hk; simpa using hk)
    rw [hu, if_pos hm']
theorem dn_cut {s : ByteArray} {p : Nat} (h : p ≤ s.size) : dn (fun i => bt (s.extract 0 p) i != 10) p = beg s p := by
  refine dn_eq (beg_le s p) (fun i h1 h2 => ?_) (fun h1 => ?_)
  · rw [bt_cut h (by omega)]
    have := beg_no h1 h2
    simp only [nl, beq_eq_false_iff_ne] at this
    simpa using this
  · have hb := beg_le s p
    rw [bt_cut h (by omega)]
    have := beg_nl h1
    simp only [nl, beq_iff_eq] at this
    simpa using this
theorem up_cut {s : ByteArray} {p : Nat} (h : p ≤ s.size) : up (fun i => bt (s.extract p s.size) i != 10) (s.size - p) 0 = fin s p - p := by
  have hg := fin_ge s p
  have hl := fin_le h
  refine up_eq (Nat.zero_le _) (by omega) (fun i _ h2 => ?_) (fun h1 => ?_)
  · rw [bt_cut (Nat.le_refl _) (by omega)]
    have := fin_no (s := s) (p := p) (i := p + i) (by omega) (by omega)
    simp only [nl, beq_eq_false_iff_ne] at this
    simpa using this
  · rw [bt_cut (Nat.le_refl _) (by omega), show p + (fin s p - p) = fin s p by omega]
    have := fin_nl (s := s) (p := p) (by omega)
    simp only [nl, beq_iff_eq] at this
    simpa using this
def sta (s : ByteArray) (x : Nat) : Prop := x = 0 ∨ (0 < x ∧ nl s (x - 1) = true)
theorem sta_inj {s : ByteArray} {x y : Nat} (hx : sta s x) (hy : sta s y) (h : lin s x = lin s y) : x = y := by
  have key : ∀ a b : Nat, sta s b → lin s a = lin s b → ¬ a < b := by
    intro a b hb h hl
    rcases hb with hb | ⟨hb, hn⟩
    · omega
    · obtain ⟨k, rfl⟩ : ∃ k, b = k + 1 := ⟨b - 1, by omega⟩
      have h1 := lin_mono (s := s) (a := a) (b := k) (by omega)
      have h2 : lin s (k + 1) = lin s k + 1 := by simp only [lin]; rw [if_pos (by simpa using hn)]
      omega
  have h1 := key x y hy h
  have h2 := key y x hx h.symm
  omega
theorem sta_beg (s : ByteArray) (p : Nat) : sta s (beg s p) := by
  by_cases h : beg s p = 0
  · exact Or.inl h
  · exact Or.inr ⟨by omega, beg_nl (by omega)⟩
theorem fin_lt_of {s : ByteArray} {m : Nat} (h : m + 1 < lns s) : fin s (att s m) < s.size := by
  have h1 := (att_in (s := s) (m := m + 1) h).1
  simp only [att] at h1; omega
theorem fin_last {s : ByteArray} {m : Nat} (h : m + 1 = lns s) : fin s (att s m) = s.size := by
  have h1 := att_in (s := s) (m := m) (by omega)
  have h2 := fin_le (s := s) (p := att s m) h1.1
  by_cases h3 : fin s (att s m) < s.size
  · have h4 := fin_nl h3
    have h5 : lin s (fin s (att s m) + 1) = lin s (fin s (att s m)) + 1 := by simp only [lin]; rw [if_pos h4]
    have h6 := lin_mono (s := s) (a := fin s (att s m) + 1) (b := s.size) (by omega)
    rw [lin_fin] at h5
    unfold lns at h; omega
  · omega
theorem sta_att {s : ByteArray} {m : Nat} (h : m < lns s) : sta s (att s m) := by
  cases m with
  | zero => exact Or.inl rfl
  | succ m => exact Or.inr ⟨by simp only [att]; omega, by simp only [att, Nat.add_sub_cancel]; exact fin_nl (fin_lt_of h)⟩
theorem beg_att {s : ByteArray} {m : Nat} (h : m < lns s) : beg s (att s m) = att s m :=
  sta_inj (sta_beg s _) (sta_att h) (lin_beg s _)
theorem beg_eq {s : ByteArray} {p : Nat} (h : p ≤ s.size) : beg s p = att s (lin s p) :=
  sta_inj (sta_beg s _) (sta_att (lin_lt h)) (by rw [lin_beg, (att_in (lin_lt h)).2])
theorem fin_beg (s : ByteArray) (p : Nat) (h : p ≤ s.size) : fin s (beg s p) = fin s p := by
  have hb := beg_le s p
  have hg := fin_ge s p
  refine up_eq (by omega) (fin_le h) (fun i h1 h2 => ?_) (fun h1 => ?_)
  · by_cases hi : i < p
    · simp [beg_no h1 hi]
    · simp [fin_no (s := s) (p := p) (i := i) (by omega) h2]
  · simp [fin_nl h1]
theorem fin_eq {s : ByteArray} {p : Nat} (h : p ≤ s.size) : fin s p = fin s (att s (lin s p)) := by rw [← beg_eq h, fin_beg s p h]
theorem line_up {s : ByteArray} {m : Nat} (h : m < lns s) (h0 : 0 < m) : beg s (att s m - 1) = att s (m - 1) ∧ fin s (att s m - 1) = fin s (att s (m - 1)) := by
  obtain ⟨k, rfl⟩ : ∃ k, m = k + 1 := ⟨m - 1, by omega⟩
  have hf := fin_lt_of h
  simp only [att, Nat.add_sub_cancel]
  have hl : lin s (fin s (att s k)) = k := by rw [lin_fin]; exact (att_in (by omega)).2
  constructor
  · rw [beg_eq (by omega), hl]
  · rw [fin_eq (by omega), hl]
theorem line_down {s : ByteArray} {m : Nat} (h : m + 1 < lns s) : beg s (fin s (att s m) + 1) = att s (m + 1) ∧ fin s (fin s (att s m) + 1) = fin s (att s (m + 1)) := by
  have : fin s (att s m) + 1 = att s (m + 1) := rfl
  rw [this]
  exact ⟨beg_att h, rfl⟩
theorem att_pos {s : ByteArray} {m : Nat} (h0 : 0 < m) : 0 < att s m := by
  cases m with
  | zero => omega
  | succ m => simp only [att]; omega
theorem lst_max (s : ByteArray) (p : Nat) : ((lst s p : Nat) : Int) = max ((beg s p : Nat) : Int) (((fin s p : Nat) : Int) - 1) := by
  unfold lst; split <;> omega
def ind (s : ByteArray) (p : Nat) : Nat := up (fun i => blk (bt s i)) (fin s p) (beg s p)
theorem frs_min (s : ByteArray) (p : Nat) (h : p ≤ s.size) : ((frs s p : Nat) : Int) = min ((ind s p : Nat) : Int) ((lst s p : Nat) : Int) := by
  have h1 := beg_le s p
  have h2 := fin_ge s p
  have h3 : ind s p ≤ fin s p := up_le (by omega)
  have h4 : beg s p ≤ ind s p := up_ge _ _ _
  unfold frs
  unfold ind at *
  split
  · rename_i h5
    unfold lst; split <;> omega
  · unfold lst; split <;> omega
def runB (s : ByteArray) (p : Nat) (g : Bool) : Nat := dn (like s p g) p
theorem runB_le (s : ByteArray) (p : Nat) (g : Bool) : runB s p g ≤ p := dn_le _ _
theorem wrun_le {s : ByteArray} {p : Nat} {g : Bool} (h : p ≤ s.size) : wrun s p g ≤ s.size := up_le h
theorem lst_line {s : ByteArray} {m : Nat} (h : m < lns s) : lst s (att s m) = if att s m < fin s (att s m) then fin s (att s m) - 1 else att s m := by
  unfold lst; rw [beg_att h]
theorem lin_lst {s : ByteArray} {m : Nat} (h : m < lns s) : lin s (lst s (att s m)) = m := by
  have h1 := att_in h
  have h2 := fin_le h1.1
  rw [lst_line h]
  split
  · rename_i h3
    have h4 : lin s (fin s (att s m) - 1) = lin s (att s m) := lin_flat (by omega) (fun i h1 h2 => fin_no h1 (by omega))
    rw [h4, h1.2]
  · exact h1.2
theorem emp_lst {s : ByteArray} {m : Nat} (h : m < lns s) : emp s (lst s (att s m)) = (((att s m : Nat) : Int) == ((fin s (att s m) : Nat) : Int)) := by
  have h1 := att_in h
  have h2 := fin_le h1.1
  have h3 := fin_ge s (att s m)
  have hl := lin_lst h
  have hle : lst s (att s m) ≤ s.size := lst_le h1.1
  unfold emp
  rw [beg_eq hle, fin_eq hle, hl, lst_line h, Bool.eq_iff_iff]
  simp only [Bool.and_eq_true, beq_iff_eq]
  split <;> omega
theorem emp_att {s : ByteArray} {m : Nat} (h : m < lns s) : emp s (att s m) = (((att s m : Nat) : Int) == ((fin s (att s m) : Nat) : Int)) := by
  unfold emp
  rw [beg_att h]
  generalize fin s (att s m) = F
  generalize att s m = A
  rw [Bool.eq_iff_iff]
  simp only [Bool.and_eq_true, beq_iff_eq, true_and]
  omega
theorem emp_no {s : ByteArray} {i : Nat} (h : i < s.size) (hn : nl s i = false) : emp s i = false := by
  have h1 : i + 1 ≤ fin s i := by
    unfold fin; rw [up_step h (by simp [hn])]; exact up_ge _ _ _
  unfold emp
  have : (fin s i == i) = false := by simp; omega
  rw [this, Bool.and_false]
theorem nl_spc {s : ByteArray} {i : Nat} (h : nl s i = true) : spc (bt s i) = true := by
  unfold nl at h
  unfold spc
  simp only [beq_iff_eq] at h
  simp [h]
theorem fin_att_no {s : ByteArray} {j i : Nat} (h1 : att s j ≤ i) (h2 : i < fin s (att s j)) : nl s i = false := fin_no h1 h2
theorem emp_fin {s : ByteArray} {j : Nat} (hj : j < lns s) (h : att s j < fin s (att s j)) : emp s (fin s (att s j)) = false := by
  have h1 := fin_le (att_in hj).1
  have hb : beg s (fin s (att s j)) = att s j := by rw [beg_eq h1, lin_fin, (att_in hj).2]
  unfold emp
  have : (beg s (fin s (att s j)) == fin s (att s j)) = false := by rw [hb]; simp; omega
  rw [this, Bool.false_and]
theorem emp_att_ne {s : ByteArray} {j : Nat} (hj : j < lns s) (h : emp s (att s j) = false) : att s j < fin s (att s j) := by
  have h3 := fin_ge s (att s j)
  rw [emp_att hj] at h
  simp at h
  omega
theorem spc_nl_f {s : ByteArray} {i : Nat} (h : spc (bt s i) = false) : nl s i = false := by
  cases hn : nl s i with
  | false => rfl
  | true => rw [nl_spc hn] at h; exact absurd h (by simp)
theorem emp_behind {s : ByteArray} {q : Nat} (h0 : 0 < q) (hn : nl s (q - 1) = false) : emp s q = false := by
  obtain ⟨k, rfl⟩ : ∃ k, q = k + 1 := ⟨q - 1, by omega⟩
  have h1 : beg s (k + 1) ≤ k := by
    unfold beg
    simp only [Nat.add_sub_cancel] at hn
    rw [dn_step (by simp [hn])]
    exact dn_le _ _
  unfold emp
  have : (beg s (k + 1) == k + 1) = false := by simp; omega
  rw [this, Bool.false_and]
theorem wrun_nsp {s : ByteArray} {r i : Nat} {g : Bool} (h0 : spc (bt s r) = false) (h1 : r ≤ i) (h2 : i < wrun s r g) : spc (bt s i) = false := by
  have h := up_all (c := like s r g) (n := s.size) h1 h2
  unfold like at h
  simp only [beq_iff_eq] at h
  have h3 := cls_nsp (g := g) h0
  cases hs : spc (bt s i) with
  | false => rfl
  | true => have := cls_spc (g := g) hs; omega
theorem wrun_gt {s : ByteArray} {r : Nat} {g : Bool} (h : r < s.size) : r < wrun s r g := by
  have h1 : up (like s r g) s.size r = up (like s r g) s.size (r + 1) := up_step h (like_self s r g)
  have h2 : r + 1 ≤ up (like s r g) s.size (r + 1) := up_ge (like s r g) s.size (r + 1)
  have h3 : wrun s r g = up (like s r g) s.size r := rfl
  omega
theorem emp_wfrom {s : ByteArray} {r : Nat} {g : Bool} (h : wfrom s r g ≠ r) : emp s (wfrom s r g) = false := by
  unfold wfrom at *
  split at h
  · rename_i hc
    rw [if_pos hc]
    have hg := wrun_gt (g := g) hc.1
    exact emp_behind (by omega) (spc_nl_f (wrun_nsp (g := g) hc.2 (by omega) (by omega)))
  · exact absurd rfl h
theorem wgap1 (s : ByteArray) (r i : Nat) (h : spc (bt s i) = false) : wgap s r i = false := by unfold wgap; rw [h, Bool.false_and]
theorem wgap2 (s : ByteArray) (r i : Nat) (g : Bool) (h : spc (bt s i) = true) (h2 : emp s i = false ∨ i = wfrom s r g) : wgap s r i = true := by
  unfold wgap
  rw [h, Bool.true_and]
  rcases h2 with h2 | h2
  · rw [h2]; rfl
  · by_cases e : i = r
    · subst e; simp
    · have := emp_wfrom (s := s) (r := r) (g := g) (by omega)
      rw [h2, this]; rfl
theorem wgap3 (s : ByteArray) (r i : Nat) (g : Bool) (h : wfrom s r g < i) (h2 : emp s i = true) : wgap s r i = false := by
  have := wfrom_ge s r g
  unfold wgap
  have e : (i != r) = true := by simp; omega
  rw [h2, e]; simp
theorem lst_size (s : ByteArray) : lst s s.size = if beg s s.size < s.size then s.size - 1 else s.size := by
  have h1 : fin s s.size = s.size := Nat.le_antisymm (fin_le (Nat.le_refl _)) (fin_ge _ _)
  have h2 := beg_le s s.size
  unfold lst; rw [h1]; split
  · rfl
  · omega
theorem clm_word {s : ByteArray} {r : Nat} {g : Bool} (h : r ≤ s.size) : ((clm s (wstep s g r) : Nat) : Int) = if ((lst s s.size : Nat) : Int) < ((wstep s g r : Nat) : Int) then ((lst s s.size : Nat) : Int) else ((wstep s g r : Nat) : Int) := by
  have hle := wstep_le (g := g) h
  by_cases he : wstep s g r = s.size
  · rw [he]; unfold clm; split <;> split <;> first | rfl | omega
  · have hlt : wstep s g r < s.size := by omega
    have hg : wgap s r (wstep s g r) = false := up_end (c := wgap s r) (n := s.size) (p := wfrom s r g) hlt
    have hc : clm s (wstep s g r) = wstep s g r := by
      unfold clm
      rw [if_neg]
      generalize wstep s g r = q at *
      unfold wgap at hg
      cases hs : spc (bt s q) with
      | false =>
        have hn := spc_nl_f hs
        have h1 : q + 1 ≤ fin s q := by unfold fin; rw [up_step hlt (by simp [hn])]; exact up_ge _ _ _
        have h2 := beg_le s q
        unfold lst; split <;> omega
      | true =>
        rw [hs, Bool.true_and] at hg
        have he : emp s q = true := by
          cases hq : emp s q with
          | true => rfl
          | false => rw [hq] at hg; simp at hg
        unfold emp at he
        simp only [Bool.and_eq_true, beq_iff_eq] at he
        unfold lst; split <;> omega
    rw [hc, if_neg]
    rw [lst_size]; split <;> omega
def wes (s : ByteArray) (g : Bool) (r : Nat) : Nat := if estep s g (r + 1) < 0 then r else (estep s g (r + 1)).toNat
theorem wes_ge (s : ByteArray) (g : Bool) (r : Nat) : r ≤ wes s g r := by
  unfold wes
  split
  · exact Nat.le_refl _
  · rename_i h
    have := estep_ge (s := s) (q := r + 1) (g := g) (by omega)
    omega
theorem wes_gt {s : ByteArray} {g : Bool} {r : Nat} (h : ¬ estep s g (r + 1) < 0) : r < wes s g r := by
  unfold wes
  rw [if_neg h]
  have := estep_ge (s := s) (q := r + 1) (g := g) (by omega)
  omega
theorem wes_le {s : ByteArray} {g : Bool} {r : Nat} (h : r ≤ s.size) : wes s g r ≤ s.size := by
  unfold wes
  split
  · exact h
  · have := estep_lt s (r + 1) g; omega
theorem itr_wes_ge (s : ByteArray) (g : Bool) (r n : Nat) : r ≤ itr (wes s g) n r := by
  induction n with
  | zero => exact Nat.le_refl _
  | succ n ih => exact Nat.le_trans ih (wes_ge s g _)
theorem itr_wes_le {s : ByteArray} {g : Bool} {r : Nat} (h : r ≤ s.size) (n : Nat) : itr (wes s g) n r ≤ s.size := by
  induction n with
  | zero => exact h
  | succ n ih => exact wes_le ih
theorem itr_succ' (f : Nat → Nat) (n r : Nat) : itr f (n + 1) r = itr f n (f r) := by
  induction n with
  | zero => rfl
  | succ n ih =>
    show f (itr f (n + 1) r) = f (itr f n (f r))
    rw [ih]
theorem itr_fix {f : Nat → Nat} {r : Nat} (h : f r = r) (n : Nat) : itr f n r = r := by
  induction n with
  | zero => rfl
  | succ n ih => show f (itr f n r) = r; rw [ih, h]
theorem eitr_itr (s : ByteArray) (g : Bool) (r n : Nat) : eitr s g n (r : Int) = ((itr (wes s g) n r : Nat) : Int) := by
  induction n with
  | zero => rfl
  | succ n ih =>
    show (if estep s g (eitr s g n r + 1).toNat < 0 then eitr s g n r else estep s g (eitr s g n r + 1).toNat) = ((wes s g (itr (wes s g) n r) : Nat) : Int)
    rw [ih]
    have e : (((itr (wes s g) n r : Nat) : Int) + 1).toNat = itr (wes s g) n r + 1 := by omega
    rw [e]
    unfold wes
    split
    · rfl
    · omega
theorem endWay_itr (s : ByteArray) (g : Bool) (p n : Nat) (hn : 1 ≤ n) : (endWay s g n p).2.2 = (((itr (wes s g) n p : Nat) : Int) == (p : Int)) ∧ ((endWay s g n p).2.2 = false → (endWay s g n p).1 = ((itr (wes s g) n p : Nat) : Int) ∧ (endWay s g n p).2.1 = 1) := by
  have e : ((p : Int) + 1).toNat = p + 1 := by omega
  obtain ⟨k, rfl⟩ : ∃ k, n = k + 1 := ⟨n - 1, by omega⟩
  unfold endWay
  rw [e]
  by_cases h : estep s g (p + 1) < 0
  · rw [if_pos h]
    have h1 : wes s g p = p := by unfold wes; rw [if_pos h]
    rw [itr_fix h1]
    simp
  · rw [if_neg h]
    have h1 := wes_gt h
    have h2 := itr_wes_ge s g (wes s g p) k
    rw [← itr_succ'] at h2
    rw [eitr_itr]
    refine ⟨?_, fun _ => ⟨rfl, rfl⟩⟩
    have : (((itr (wes s g) (k + 1) p : Nat) : Int) == (p : Int)) = false := by simp; omega
    rw [this]
theorem wes_eq {s : ByteArray} {g : Bool} {r : Nat} (h : r < s.size) : wes s g r = if up (sp s) s.size (r + 1) = s.size then r else wrun s (up (sp s) s.size (r + 1)) g - 1 := by
  have hle : up (sp s) s.size (r + 1) ≤ s.size := up_le (by omega)
  unfold wes estep
  by_cases hq : up (sp s) s.size (r + 1) < s.size
  · rw [if_pos hq, if_neg (by omega : ¬ up (sp s) s.size (r + 1) = s.size)]
    generalize up (sp s) s.size (r + 1) = q at *
    have h1 : wrun s q g = up (like s q g) s.size (q + 1) := up_step hq (like_self s q g)
    have h2 : q + 1 ≤ up (like s q g) s.size (q + 1) := up_ge (like s q g) s.size (q + 1)
    rw [h1, if_neg (by omega)]
    omega
  · rw [if_neg hq, if_pos (by omega), if_pos (by omega)]
theorem wes_end {s : ByteArray} {g : Bool} : wes s g s.size = s.size := by
  unfold wes estep
  have h1 : s.size + 1 ≤ up (sp s) s.size (s.size + 1) := up_ge _ _ _
  have h2 : ¬ up (sp s) s.size (s.size + 1) < s.size := by omega
  simp [h2]
end Go.Proofs.YtlendfhehhacpaaGreat.Nib
