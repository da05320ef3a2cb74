/- Joined of the texts PureG, PureQ, PureH, PureI, PureR, PureS. -/
import Derived.Test.YtlendfhehhacpaaGreatP01
import Derived.Laws.Externs
set_option linter.unusedVariables false
set_option linter.unusedSimpArgs false
set_option maxRecDepth 100000
set_option maxHeartbeats 8000000
namespace Go.Proofs.YtlendfhehhacpaaGreat.Nib
structure Ed where
  t : ByteArray
  p : Nat
  anchor : Nat
  mode : Int
  keys : ByteArray
  regS : Nat → ByteArray
  regL : Nat → Bool
  find : Int
  findC : Int
  done : List (ByteArray × ByteArray)
  undone : List (ByteArray × ByteArray)
  command : ByteArray
  written : ByteArray
  has : Bool
  before : ByteArray
  typed : ByteArray
  doing : ByteArray
  isDoing : Bool
def isWay (key : Int) : Bool :=
  key == 104 || key == 108 || key == 48 || key == 94 || key == 36 || key == 106 || key == 107 || key == 71 || key == 103 || key == 119 || key == 87 || key == 98 || key == 66 || key == 101 || key == 69
  || key == 102 || key == 116 || key == 70 || key == 84 || key == 125 || key == 123 || key == 37
def isFind (key : Int) : Bool := key == 102 || key == 116 || key == 70 || key == 84
def flp (key : Int) : Int := if key = 102 then 70 else if key = 70 then 102 else if key = 116 then 84 else if key = 84 then 116 else key
def wayEd (e : Ed) (x : Cmd) : Ed := if isFind x.way = true ∧ x.c ≠ 27 then { e with find := x.way, findC := x.c } else e
def wayOf (e : Ed) (x : Cmd) (v : Bool) : Int × Int × Bool :=
  if isFind x.way = true then (if x.c = 27 then (0, 0, true) else goWay e.t e.p x.way x.c x.n.toNat x.given v false)
  else if x.way = 59 ∨ x.way = 44 then
    (if e.find = 0 then (0, 0, true) else goWay e.t e.p (if x.way = 44 then flp e.find else e.find) e.findC x.n.toNat x.given v true)
  else goWay e.t e.p x.way x.c x.n.toNat x.given v false
theorem bt_app {s t : ByteArray} {i : Nat} (h : i < s.size) : bt (s ++ t) i = bt s i := by
  have h2 : i < (s ++ t).size := by rw [ByteArray.size_append]; omega
  rw [bt_in h, bt_in h2]
  congr 2
  exact ByteArray.getElem_append_left h
theorem bt_app_right {s t : ByteArray} {i : Nat} (h : i < t.size) : bt (s ++ t) (s.size + i) = bt t i := by
  have h2 : s.size + i < (s ++ t).size := by rw [ByteArray.size_append]; omega
  rw [bt_in h, bt_in h2]
  congr 2
  rw [ByteArray.getElem_append_right (by omega)]
  congr 1
  omega
theorem bt_one (u : UInt8) : bt ⟨#[u]⟩ 0 = (u.toNat : Int) := rfl
theorem bt_end (s : ByteArray) (u : UInt8) : bt (s ++ ⟨#[u]⟩) s.size = (u.toNat : Int) := bt_app_right (s := s) (t := ⟨#[u]⟩) (i := 0) Nat.one_pos
def isD (n : Nat) (c : Int) : Bool := decide ((49 ≤ c ∧ c ≤ 57) ∨ (c = 48 ∧ 0 < n))
def nextN (n : Nat) (c : Int) : Nat := if 99 < n * 10 + (c - 48).toNat then 99 else n * 10 + (c - 48).toNat
def AllNum (s : ByteArray) (n : Nat) : Prop := numF s s.size 0 0 = (n, s.size)
theorem isDig_app {s t : ByteArray} {n a : Nat} (h : a < s.size) : isDig (s ++ t) n a = isDig s n a := by simp only [isDig, bt_app h]
theorem numF_app {s t : ByteArray} : ∀ f n a n', a + f = s.size → numF s f n a = (n', s.size) → numF (s ++ t) (f + t.size) n a = numF (s ++ t) t.size n' s.size := by
  intro f
  induction f with
  | zero =>
    intro n a n' h1 h2
    simp only [numF, Prod.mk.injEq] at h2
    obtain ⟨rfl, rfl⟩ := h2
    rw [Nat.zero_add]
  | succ f ih =>
    intro n a n' h1 h2
    have ha : a < s.size := by omega
    by_cases hc : a < s.size ∧ isDig s n a = true
    · have hc2 : a < (s ++ t).size ∧ isDig (s ++ t) n a = true := ⟨by rw [ByteArray.size_append]; omega, by rw [isDig_app ha]; exact hc.2⟩
      rw [show f + 1 + t.size = (f + t.size) + 1 by omega]
      simp only [numF] at h2 ⊢
      rw [if_pos hc] at h2
      rw [if_pos hc2, bt_app ha]
      exact ih _ _ _ (by omega) h2
    · simp only [numF] at h2
      rw [if_neg hc] at h2
      simp only [Prod.mk.injEq] at h2
      omega
theorem allNum_nil : AllNum ⟨#[]⟩ 0 := rfl
theorem num_app {s t : ByteArray} {n : Nat} (h : AllNum s n) : num (s ++ t) 0 = numF (s ++ t) t.size n s.size := by
  unfold num
  rw [Nat.sub_zero, ByteArray.size_append]
  exact numF_app _ _ _ _ (by omega) h
theorem allNum_le {s : ByteArray} {n : Nat} (h : AllNum s n) : n ≤ 99 := by
  have := (numF_le (s := s) s.size 0 0 (by omega) (by omega)).2.2
  rw [h] at this; exact this
theorem allNum_more {s : ByteArray} {n : Nat} {u : UInt8} (h : AllNum s n) (hd : isD n u.toNat = true) : AllNum (s ++ ⟨#[u]⟩) (nextN n u.toNat) := by
  have hz : (s ++ ⟨#[u]⟩).size = s.size + 1 := ByteArray.size_append
  unfold AllNum
  have e := num_app (t := ⟨#[u]⟩) h
  unfold num at e
  rw [Nat.sub_zero] at e
  rw [e, show ByteArray.size ⟨#[u]⟩ = 0 + 1 from rfl]
  simp only [numF]
  rw [if_pos ⟨by omega, by simp only [isDig, bt_end]; exact hd⟩, bt_end, hz]
  rfl
theorem num_stop {s t : ByteArray} {n : Nat} (h : AllNum s n) (ht : 0 < t.size) (hd : isD n (bt t 0) = false) : num (s ++ t) 0 = (n, s.size) := by
  rw [num_app h]
  obtain ⟨k, hk⟩ : ∃ k, t.size = k + 1 := ⟨t.size - 1, by omega⟩
  rw [hk]
  simp only [numF]
  have e : bt (s ++ t) s.size = bt t 0 := bt_app_right (s := s) (t := t) (i := 0) ht
  rw [if_neg]
  intro hc
  have := hc.2
  simp only [isDig, e] at this
  rw [isD, this] at hd
  exact Bool.noConfusion hd
theorem allNum_head {s : ByteArray} {n : Nat} (h : AllNum s n) (hz : 0 < s.size) : 49 ≤ bt s 0 ∧ bt s 0 ≤ 57 := by
  unfold AllNum at h
  obtain ⟨k, hk⟩ : ∃ k, s.size = k + 1 := ⟨s.size - 1, by omega⟩
  rw [hk] at h
  simp only [numF] at h
  by_cases hc : 0 < s.size ∧ isDig s 0 0 = true
  · have := hc.2
    simp only [isDig, decide_eq_true_eq] at this
    omega
  · rw [if_neg hc] at h
    simp only [Prod.mk.injEq] at h
    omega
theorem numF_pos {s : ByteArray} : ∀ f n a, 0 < n → 0 < (numF s f n a).1 := by
  intro f
  induction f with
  | zero => intro n a h; exact h
  | succ f ih =>
    intro n a h
    simp only [numF]
    by_cases hc : a < s.size ∧ isDig s n a = true
    · rw [if_pos hc]; exact ih _ _ (by split <;> omega)
    · rw [if_neg hc]; exact h
theorem allNum_pos {s : ByteArray} {n : Nat} (h : AllNum s n) (hz : 0 < s.size) : 0 < n := by
  have hd := allNum_head h hz
  unfold AllNum at h
  obtain ⟨k, hk⟩ : ∃ k, s.size = k + 1 := ⟨s.size - 1, by omega⟩
  rw [hk] at h
  simp only [numF] at h
  rw [if_pos ⟨hz, by simp only [isDig, decide_eq_true_eq]; omega⟩] at h
  have := numF_pos (s := s) k (if 99 < 0 * 10 + (bt s 0 - 48).toNat then 99 else 0 * 10 + (bt s 0 - 48).toNat) (0 + 1) (by split <;> omega)
  rw [h] at this
  exact this
theorem allNum_zero {s : ByteArray} {n : Nat} (h : AllNum s n) (hz : s.size = 0) : n = 0 := by
  unfold AllNum at h
  rw [hz] at h
  simp only [numF, Prod.mk.injEq] at h
  omega
theorem head_app {s t : ByteArray} {n : Nat} (h : AllNum s n) (ht : 0 < t.size) (h34 : bt t 0 ≠ 34) : ¬ bt (s ++ t) 0 = 34 := by
  by_cases hz : 0 < s.size
  · rw [bt_app hz]; have := allNum_head h hz; omega
  · have e : s.size = 0 := by omega
    have := bt_app_right (s := s) (t := t) (i := 0) ht
    rw [e] at this
    rw [this]; exact h34
theorem rd_num {s : ByteArray} {n : Nat} {u : UInt8} (m : Bool) (h : AllNum s n) (hd : isD n u.toNat = true) : rd (s ++ ⟨#[u]⟩) m = cMore := by
  have h34 : ¬ bt (s ++ ⟨#[u]⟩) 0 = 34 := head_app (t := ⟨#[u]⟩) h Nat.one_pos (by rw [bt_one]; simp only [isD, decide_eq_true_eq] at hd; omega)
  unfold rd
  rw [if_neg h34]
  unfold rdFrom
  have e : num (s ++ ⟨#[u]⟩) 0 = (nextN n u.toNat, (s ++ ⟨#[u]⟩).size) := by
    have := allNum_more h hd
    unfold AllNum at this
    unfold num
    rw [Nat.sub_zero]
    exact this
  rw [e, if_pos rfl]
theorem ext_tail (s t : ByteArray) (k : Nat) : (s ++ t).extract (s.size + k) (s ++ t).size = t.extract k t.size := by
  rw [ByteArray.size_append, ByteArray.extract_append]
  have h1 : s.extract (s.size + k) (s.size + t.size) = ⟨#[]⟩ := by
    apply ByteArray.ext
    simp
  rw [h1]
  have h2 : s.size + k - s.size = k := by omega
  have h3 : s.size + t.size - s.size = t.size := by omega
  rw [h2, h3]
  apply ByteArray.ext
  simp
theorem rd_body {s t : ByteArray} {n : Nat} (m : Bool) (h : AllNum s n) (ht : 0 < t.size) (hd : isD n (bt t 0) = false) (h34 : bt t 0 ≠ 34) :
    rd (s ++ t) m = rdBody (cHead (-1) n) m (bt t 0) (t.extract 1 t.size) := by
  unfold rd
  rw [if_neg (head_app h ht h34)]
  unfold rdFrom
  have hz : (s ++ t).size = s.size + t.size := ByteArray.size_append
  rw [num_stop h ht hd]
  simp only
  rw [if_neg (by omega), ext_tail]
  have e : bt (s ++ t) s.size = bt t 0 := bt_app_right (s := s) (t := t) (i := 0) ht
  rw [e]
theorem rd_one {s : ByteArray} {n : Nat} {u : UInt8} (m : Bool) (h : AllNum s n) (hd : isD n u.toNat = false) (h34 : (u.toNat : Int) ≠ 34) :
    rd (s ++ ⟨#[u]⟩) m = rdBody (cHead (-1) n) m u.toNat ⟨#[]⟩ := rd_body (t := ⟨#[u]⟩) m h Nat.one_pos hd h34
theorem rd_two {s : ByteArray} {n : Nat} {c u : UInt8} (m : Bool) (h : AllNum s n) (hd : isD n c.toNat = false) (h34 : (c.toNat : Int) ≠ 34) :
    rd (s ++ ⟨#[c]⟩ ++ ⟨#[u]⟩) m = rdBody (cHead (-1) n) m c.toNat ⟨#[u]⟩ := by
  have e : s ++ ⟨#[c]⟩ ++ ⟨#[u]⟩ = s ++ (⟨#[c, u]⟩ : ByteArray) := by
    apply ByteArray.ext
    apply Array.ext'
    simp
  rw [e]
  exact rd_body (t := ⟨#[c, u]⟩) m h (Nat.succ_pos 1) hd h34
theorem bt_cut {s : ByteArray} {a b i : Nat} (hb : b ≤ s.size) (h : a + i < b) : bt (s.extract a b) i = bt s (a + i) := by
  have h1 : i < (s.extract a b).size := by rw [ByteArray.size_extract]; omega
  rw [bt_in h1, bt_in (by omega), ByteArray.getElem_extract]
theorem first_up (s : ByteArray) (c : Int) (h0 : 0 ≤ c) (h1 : c < 256) :
    Go.firstIdx s c.toNat.toUInt8 = if up (fun i => bt s i != c) s.size 0 < s.size then ((up (fun i => bt s i != c) s.size 0 : Nat) : Int) else -1 := by
  have hq : ∀ i, i < s.size → ((s[i]! == c.toNat.toUInt8) = (bt s i == c)) := by
    intro i hi
    rw [getElem!_pos s i hi, bt_in hi, Bool.eq_iff_iff]
    simp only [beq_iff_eq]
    constructor
    · intro h
      rw [h]
      simp only [Nat.toUInt8, UInt8.ofNat, UInt8.toNat, BitVec.toNat_ofNat]
      omega
    · intro h
      apply UInt8.toNat_inj.1
      simp only [Nat.toUInt8, UInt8.ofNat, UInt8.toNat, BitVec.toNat_ofNat]
      simp only [UInt8.toNat] at h
      omega
  unfold Go.firstIdx
  cases hf : (List.range s.size).find? (fun i => s[i]! == c.toNat.toUInt8) with
  | none =>
    rw [List.find?_range_eq_none] at hf
    have hu : up (fun i => bt s i != c) s.size 0 = s.size := up_eq (Nat.zero_le _) (Nat.le_refl _) (fun i _ hi => by have := hf i hi; rw [hq i hi] at this; simpa using this) (fun h => absurd h (Nat.lt_irrefl _))
    rw [hu, if_neg (Nat.lt_irrefl _)]
  | some k =>
    rw [List.find?_range_eq_some] at hf
    obtain ⟨hk, hm, hl⟩ := hf
    have hm' : k < s.size := List.mem_range.1 hm
    have hu : up (fun i => bt s i != c) s.size 0 = k := up_eq (Nat.zero_le _) (Nat.le_of_lt hm') (fun i _ hi => by have := hl i hi; rw [hq i (by omega)] at this; simpa using this) (fun _ => by rw [hq k hm'] at hk; simpa using hk)
    rw [hu, if_pos hm']
theorem dn_cut {s : ByteArray} {p : Nat} (h : p ≤ s.size) : dn (fun i => bt (s.extract 0 p) i != 10) p = beg s p := by
  refine dn_eq (beg_le s p) (fun i h1 h2 => ?_) (fun h1 => ?_)
  · rw [bt_cut h (by omega)]
    have := beg_no h1 h2
    simp only [nl, beq_eq_false_iff_ne] at this
    simpa using this
  · have hb := beg_le s p
    rw [bt_cut h (by omega)]
    have := beg_nl h1
    simp only [nl, beq_iff_eq] at this
    simpa using this
theorem up_cut {s : ByteArray} {p : Nat} (h : p ≤ s.size) : up (fun i => bt (s.extract p s.size) i != 10) (s.size - p) 0 = fin s p - p := by
  have hg := fin_ge s p
  have hl := fin_le h
  refine up_eq (Nat.zero_le _) (by omega) (fun i _ h2 => ?_) (fun h1 => ?_)
  · rw [bt_cut (Nat.le_refl _) (by omega)]
    have := fin_no (s := s) (p := p) (i := p + i) (by omega) (by omega)
    simp only [nl, beq_eq_false_iff_ne] at this
    simpa using this
  · rw [bt_cut (Nat.le_refl _) (by omega), show p + (fin s p - p) = fin s p by omega]
    have := fin_nl (s := s) (p := p) (by omega)
    simp only [nl, beq_iff_eq] at this
    simpa using this
def sta (s : ByteArray) (x : Nat) : Prop := x = 0 ∨ (0 < x ∧ nl s (x - 1) = true)
theorem sta_inj {s : ByteArray} {x y : Nat} (hx : sta s x) (hy : sta s y) (h : lin s x = lin s y) : x = y := by
  have key : ∀ a b : Nat, sta s b → lin s a = lin s b → ¬ a < b := by
    intro a b hb h hl
    rcases hb with hb | ⟨hb, hn⟩
    · omega
    · obtain ⟨k, rfl⟩ : ∃ k, b = k + 1 := ⟨b - 1, by omega⟩
      have h1 := lin_mono (s := s) (a := a) (b := k) (by omega)
      have h2 : lin s (k + 1) = lin s k + 1 := by simp only [lin]; rw [if_pos (by simpa using hn)]
      omega
  have h1 := key x y hy h
  have h2 := key y x hx h.symm
  omega
theorem sta_beg (s : ByteArray) (p : Nat) : sta s (beg s p) := by
  by_cases h : beg s p = 0
  · exact Or.inl h
  · exact Or.inr ⟨by omega, beg_nl (by omega)⟩
theorem fin_lt_of {s : ByteArray} {m : Nat} (h : m + 1 < lns s) : fin s (att s m) < s.size := by
  have h1 := (att_in (s := s) (m := m + 1) h).1
  simp only [att] at h1; omega
theorem fin_last {s : ByteArray} {m : Nat} (h : m + 1 = lns s) : fin s (att s m) = s.size := by
  have h1 := att_in (s := s) (m := m) (by omega)
  have h2 := fin_le (s := s) (p := att s m) h1.1
  by_cases h3 : fin s (att s m) < s.size
  · have h4 := fin_nl h3
    have h5 : lin s (fin s (att s m) + 1) = lin s (fin s (att s m)) + 1 := by simp only [lin]; rw [if_pos h4]
    have h6 := lin_mono (s := s) (a := fin s (att s m) + 1) (b := s.size) (by omega)
    rw [lin_fin] at h5
    unfold lns at h; omega
  · omega
theorem sta_att {s : ByteArray} {m : Nat} (h : m < lns s) : sta s (att s m) := by
  cases m with
  | zero => exact Or.inl rfl
  | succ m => exact Or.inr ⟨by simp only [att]; omega, by simp only [att, Nat.add_sub_cancel]; exact fin_nl (fin_lt_of h)⟩
theorem beg_att {s : ByteArray} {m : Nat} (h : m < lns s) : beg s (att s m) = att s m :=
  sta_inj (sta_beg s _) (sta_att h) (lin_beg s _)
theorem beg_eq {s : ByteArray} {p : Nat} (h : p ≤ s.size) : beg s p = att s (lin s p) :=
  sta_inj (sta_beg s _) (sta_att (lin_lt h)) (by rw [lin_beg, (att_in (lin_lt h)).2])
theorem fin_beg (s : ByteArray) (p : Nat) (h : p ≤ s.size) : fin s (beg s p) = fin s p := by
  have hb := beg_le s p
  have hg := fin_ge s p
  refine up_eq (by omega) (fin_le h) (fun i h1 h2 => ?_) (fun h1 => ?_)
  · by_cases hi : i < p
    · simp [beg_no h1 hi]
    · simp [fin_no (s := s) (p := p) (i := i) (by omega) h2]
  · simp [fin_nl h1]
theorem fin_eq {s : ByteArray} {p : Nat} (h : p ≤ s.size) : fin s p = fin s (att s (lin s p)) := by rw [← beg_eq h, fin_beg s p h]
theorem line_up {s : ByteArray} {m : Nat} (h : m < lns s) (h0 : 0 < m) : beg s (att s m - 1) = att s (m - 1) ∧ fin s (att s m - 1) = fin s (att s (m - 1)) := by
  obtain ⟨k, rfl⟩ : ∃ k, m = k + 1 := ⟨m - 1, by omega⟩
  have hf := fin_lt_of h
  simp only [att, Nat.add_sub_cancel]
  have hl : lin s (fin s (att s k)) = k := by rw [lin_fin]; exact (att_in (by omega)).2
  constructor
  · rw [beg_eq (by omega), hl]
  · rw [fin_eq (by omega), hl]
theorem line_down {s : ByteArray} {m : Nat} (h : m + 1 < lns s) : beg s (fin s (att s m) + 1) = att s (m + 1) ∧ fin s (fin s (att s m) + 1) = fin s (att s (m + 1)) := by
  have : fin s (att s m) + 1 = att s (m + 1) := rfl
  rw [this]
  exact ⟨beg_att h, rfl⟩
theorem att_pos {s : ByteArray} {m : Nat} (h0 : 0 < m) : 0 < att s m := by
  cases m with
  | zero => omega
  | succ m => simp only [att]; omega
theorem lst_max (s : ByteArray) (p : Nat) : ((lst s p : Nat) : Int) = max ((beg s p : Nat) : Int) (((fin s p : Nat) : Int) - 1) := by
  unfold lst; split <;> omega
def ind (s : ByteArray) (p : Nat) : Nat := up (fun i => blk (bt s i)) (fin s p) (beg s p)
theorem frs_min (s : ByteArray) (p : Nat) (h : p ≤ s.size) : ((frs s p : Nat) : Int) = min ((ind s p : Nat) : Int) ((lst s p : Nat) : Int) := by
  have h1 := beg_le s p
  have h2 := fin_ge s p
  have h3 : ind s p ≤ fin s p := up_le (by omega)
  have h4 : beg s p ≤ ind s p := up_ge _ _ _
  unfold frs
  unfold ind at *
  split
  · rename_i h5
    unfold lst; split <;> omega
  · unfold lst; split <;> omega
def runB (s : ByteArray) (p : Nat) (g : Bool) : Nat := dn (like s p g) p
theorem runB_le (s : ByteArray) (p : Nat) (g : Bool) : runB s p g ≤ p := dn_le _ _
theorem wrun_le {s : ByteArray} {p : Nat} {g : Bool} (h : p ≤ s.size) : wrun s p g ≤ s.size := up_le h
def kSome1 : ByteArray := ⟨#[100, 99, 121, 120, 88, 68, 67, 115, 83, 89, 105, 73, 97, 65, 111, 79, 60, 62]⟩
def key1 (c : Int) : Bool :=
  !(c == 117 || c == 46 || c == 18 || c == 85 || c == 74 || c == 114 || c == 126 || c == 112 || c == 80 || c == 34) && !mem kSome1 c
def isPlain (key : Int) : Bool := key == 104 || key == 108 || key == 48 || key == 94 || key == 36 || key == 106 || key == 107 || key == 71 || key == 119 || key == 87 || key == 98 || key == 66 || key == 101 || key == 69 || key == 125 || key == 123 || key == 37
def isMk (c : Int) : Bool := c == 118 || c == 86
def row1 (c : Int) : Bool :=
  !key1 c || (!mem kVerbs c && !(c == 34) && !(c == 114) && !(c == 18) && !(c == 105) && !(c == 97) && !(c == 117) && !(c == 85) && (mem kOther c == isMk c) && (mem kMark c == isMk c)
    && (mem kFind c == isFind c) && (mem kWays c == (isPlain c || c == 59 || c == 44)))
theorem row1_all : ∀ k : Nat, k < 256 → row1 (k : Int) = true := by decide +kernel
structure Row1 (c : Int) : Prop where
  verbs : mem kVerbs c = false
  n34 : c ≠ 34
  n114 : c ≠ 114
  n18 : c ≠ 18
  n105 : c ≠ 105
  n97 : c ≠ 97
  n117 : c ≠ 117
  n85 : c ≠ 85
  other : mem kOther c = isMk c
  mark : mem kMark c = isMk c
  find : mem kFind c = isFind c
  ways : mem kWays c = (isPlain c || c == 59 || c == 44)
theorem row1_of {u : UInt8} (h : key1 u.toNat = true) : Row1 u.toNat := by
  have := row1_all u.toNat u.toNat_lt
  simp only [row1, h, Bool.not_true, Bool.false_or, Bool.and_eq_true, Bool.not_eq_true', beq_iff_eq, beq_eq_false_iff_ne] at this
  obtain ⟨⟨⟨⟨⟨⟨⟨⟨⟨⟨⟨a, b⟩, c⟩, d⟩, e⟩, f⟩, g⟩, h⟩, i⟩, j⟩, k⟩, l⟩ := this
  exact ⟨a, b, c, d, e, f, g, h, i, j, k, l⟩
theorem body1_mark {x : Cmd} {m : Bool} {c : Int} {r : ByteArray} (h : Row1 c) (hk : isMk c = true) : rdBody x m c r = cO x c := by
  cases m with
  | true =>
    simp only [rdBody, if_true, rdMarked]
    rw [if_neg (by have := h.n105; have := h.n97; omega), if_pos (by rw [h.mark, hk])]
  | false =>
    simp only [rdBody, Bool.false_eq_true, if_false, rdNorm]
    rw [if_neg (by rw [h.verbs]; decide), if_neg (by simp only [isMk, Bool.or_eq_true, beq_iff_eq] at hk; omega), if_neg h.n114, if_pos (Or.inl (by rw [h.other, hk]))]
theorem body1_way {x : Cmd} {m : Bool} {c : Int} {r : ByteArray} (h : Row1 c) (hk : isMk c = false) (hg : c = 103 → r.size = 0 ∨ (bt r 0 ≠ 117 ∧ bt r 0 ≠ 85)) : rdBody x m c r = rdWay x c r := by
  cases m with
  | true =>
    simp only [rdBody, if_true, rdMarked]
    rw [if_neg (by have := h.n105; have := h.n97; omega), if_neg (by rw [h.mark, hk]; decide)]
  | false =>
    simp only [rdBody, Bool.false_eq_true, if_false, rdNorm]
    rw [if_neg (by rw [h.verbs]; decide), if_neg (by intro hc; have := hg hc.1; omega), if_neg h.n114, if_neg (by rw [h.other, hk]; have := h.n18; simp; omega)]
def Beg (keys : ByteArray) (n : Nat) (part : Int) : Prop :=
  (AllNum keys n ∧ part = 0) ∨ ∃ (ds : ByteArray) (c : UInt8), keys = ds ++ ⟨#[c]⟩ ∧ AllNum ds n ∧ part = c.toNat ∧ (isFind c.toNat = true ∨ (c.toNat : Int) = 103)
theorem beg_nil : Beg ⟨#[]⟩ 0 0 := Or.inl ⟨allNum_nil, rfl⟩
theorem Beg.le {keys : ByteArray} {n : Nat} {part : Int} (h : Beg keys n part) : n ≤ 99 := by
  rcases h with h | ⟨ds, c, _, h, _⟩
  · exact allNum_le h.1
  · exact allNum_le h
theorem Beg.parts {keys : ByteArray} {n : Nat} {part : Int} (h : Beg keys n part) : part = 0 ∨ isFind part = true ∨ part = 103 := by
  rcases h with h | ⟨ds, c, _, h, rfl, h2⟩
  · exact Or.inl h.2
  · exact Or.inr h2
theorem Beg.num {keys : ByteArray} {n : Nat} (h : Beg keys n 0) : AllNum keys n := by
  rcases h with h | ⟨ds, c, _, h, h1, h2⟩
  · exact h.1
  · simp only [isFind, Bool.or_eq_true, beq_iff_eq] at h2; omega
theorem Beg.empty {keys : ByteArray} {n : Nat} {part : Int} (h : Beg keys n part) : keys.size = 0 ↔ (n = 0 ∧ part = 0) := by
  rcases h with ⟨h, rfl⟩ | ⟨ds, c, rfl, h, rfl, h2⟩
  · constructor
    · intro hz; exact ⟨allNum_zero h hz, rfl⟩
    · intro hz
      by_cases hp : 0 < keys.size
      · have := allNum_pos h hp; omega
      · omega
  · have hz : (ds ++ ⟨#[c]⟩).size = ds.size + 1 := ByteArray.size_append
    simp only [isFind, Bool.or_eq_true, beq_iff_eq] at h2
    omega
theorem notD_of {n : Nat} {c : Int} (h : ¬ (48 ≤ c ∧ c ≤ 57)) : isD n c = false := by simp only [isD, decide_eq_false_iff_not]; omega
section
variable {keys : ByteArray} {n : Nat} {u : UInt8} (m : Bool)
theorem rd1_num (h : Beg keys n 0) (hd : isD n u.toNat = true) : rd (keys ++ ⟨#[u]⟩) m = cMore ∧ Beg (keys ++ ⟨#[u]⟩) (nextN n u.toNat) 0 :=
  ⟨rd_num m h.num hd, Or.inl ⟨allNum_more h.num hd, rfl⟩⟩
theorem rd1_part (h : Beg keys n 0) (hk : isFind u.toNat = true ∨ (u.toNat : Int) = 103) (h1 : key1 u.toNat = true) : rd (keys ++ ⟨#[u]⟩) m = cMore ∧ Beg (keys ++ ⟨#[u]⟩) n u.toNat := by
  refine ⟨?_, Or.inr ⟨keys, u, rfl, h.num, rfl, hk⟩⟩
  have hr := row1_of h1
  have hk' := hk
  simp only [isFind, Bool.or_eq_true, beq_iff_eq] at hk'
  rw [rd_one m h.num (notD_of (by omega)) hr.n34, body1_way hr (by simp only [isMk, Bool.or_eq_false_iff, beq_eq_false_iff_ne]; omega) (fun _ => Or.inl rfl)]
  have hw : mem kWays u.toNat = false := by
    rw [hr.ways]; rcases hk' with (((h | h) | h) | h) | h <;> rw [h] <;> decide
  rw [rdWay, if_neg (by rw [hw]; decide), hr.find]
  rcases hk with hk | hk
  · rw [if_pos hk]; rfl
  · rw [hk, if_neg (by decide)]; rfl
theorem rd1_mark (h : Beg keys n 0) (hk : isMk u.toNat = true) (h1 : key1 u.toNat = true) : rd (keys ++ ⟨#[u]⟩) m = cO (cHead (-1) n) u.toNat := by
  have hr := row1_of h1
  have hk' := hk
  simp only [isMk, Bool.or_eq_true, beq_iff_eq] at hk'
  rw [rd_one m h.num (notD_of (by omega)) hr.n34, body1_mark hr hk]
theorem rd1_way (h : Beg keys n 0) (hd : isD n u.toNat = false) (hk : (isPlain u.toNat || (u.toNat : Int) == 59 || (u.toNat : Int) == 44) = true) (h1 : key1 u.toNat = true) : rd (keys ++ ⟨#[u]⟩) m = cW (cHead (-1) n) u.toNat := by
  have hr := row1_of h1
  rw [rd_one m h.num hd hr.n34, body1_way hr (by simp only [isPlain, Bool.or_eq_true, beq_iff_eq] at hk; simp only [isMk, Bool.or_eq_false_iff, beq_eq_false_iff_ne]; omega) (fun _ => Or.inl rfl)]
  rw [rdWay, if_pos (by rw [hr.ways]; exact hk)]
theorem rd1_bad (h : Beg keys n 0) (hd : isD n u.toNat = false) (h2 : isFind u.toNat = false) (h3 : (u.toNat : Int) ≠ 103) (h4 : isMk u.toNat = false) (h5 : (isPlain u.toNat || (u.toNat : Int) == 59 || (u.toNat : Int) == 44) = false) (h1 : key1 u.toNat = true) :
    rd (keys ++ ⟨#[u]⟩) m = cBad := by
  have hr := row1_of h1
  rw [rd_one m h.num hd hr.n34, body1_way hr h4 (fun _ => Or.inl rfl)]
  rw [rdWay, if_neg (by rw [hr.ways, h5]; decide), if_neg (by rw [hr.find, h2]; decide), if_neg h3]
theorem rd1_find {part : Int} (h : Beg keys n part) (hp : isFind part = true) : rd (keys ++ ⟨#[u]⟩) m = cWC (cHead (-1) n) part u.toNat := by
  rcases h with ⟨_, rfl⟩ | ⟨ds, c, rfl, h, rfl, _⟩
  · exact absurd hp (by decide)
  · have hp' := hp
    simp only [isFind, Bool.or_eq_true, beq_iff_eq] at hp'
    have hr : Row1 c.toNat := row1_of (by rcases hp' with ((h | h) | h) | h <;> rw [h] <;> decide)
    rw [rd_two m h (notD_of (by omega)) hr.n34, body1_way hr (by simp only [isMk, Bool.or_eq_false_iff, beq_eq_false_iff_ne]; omega) (by omega)]
    have hw : mem kWays c.toNat = false := by
      rw [hr.ways]; rcases hp' with ((h | h) | h) | h <;> rw [h] <;> decide
    rw [rdWay, if_neg (by rw [hw]; decide), hr.find, if_pos hp]
    rfl
theorem rd1_gg (h : Beg keys n 103) (hu : (u.toNat : Int) = 103) : rd (keys ++ ⟨#[u]⟩) m = cW (cHead (-1) n) 103 := by
  rcases h with ⟨_, hc⟩ | ⟨ds, c, rfl, h, hc, _⟩
  · exact absurd hc (by decide)
  · have hr : Row1 c.toNat := row1_of (by rw [← hc]; decide)
    rw [rd_two m h (notD_of (by omega)) hr.n34, body1_way hr (by rw [← hc]; decide) (fun _ => Or.inr (by rw [bt_one]; omega))]
    rw [← hc, rdWay, if_neg (by decide), if_neg (by decide), if_pos rfl, if_neg (show ¬ ByteArray.size ⟨#[u]⟩ = 0 from Nat.one_ne_zero), if_pos (by rw [bt_one]; exact hu)]
theorem rd1_g (h : Beg keys n 103) (hu : (u.toNat : Int) ≠ 103) (h1 : key1 u.toNat = true) : rd (keys ++ ⟨#[u]⟩) m = cBad := by
  rcases h with ⟨_, hc⟩ | ⟨ds, c, rfl, h, hc, _⟩
  · exact absurd hc (by decide)
  · have hr : Row1 c.toNat := row1_of (by rw [← hc]; decide)
    have hr2 := row1_of h1
    rw [rd_two m h (notD_of (by omega)) hr.n34, body1_way hr (by rw [← hc]; decide) (fun _ => Or.inr (by rw [bt_one]; exact ⟨hr2.n117, hr2.n85⟩))]
    rw [← hc, rdWay, if_neg (by decide), if_neg (by decide), if_pos rfl, if_neg (show ¬ ByteArray.size ⟨#[u]⟩ = 0 from Nat.one_ne_zero), if_neg (by rw [bt_one]; exact hu)]
end
theorem frs_le {s : ByteArray} {p : Nat} (h : p ≤ s.size) : frs s p ≤ s.size := by
  have h1 := lst_le h
  have h2 := beg_le s p
  have h3 := fin_le h
  have h4 := fin_ge s p
  unfold frs
  first
    | (split
       · omega
       · exact up_le (by omega))
    | (have := up_le (c := fun i => blk (bt s i)) (n := fin s p) (p := beg s p) (by omega); (repeat' split) <;> omega)
theorem wayH_in {s : ByteArray} {p n : Nat} (hp : p ≤ s.size) : 0 ≤ (wayH s p n).1 ∧ (wayH s p n).1 ≤ s.size := by
  have := beg_le s p
  simp only [wayH]; split <;> omega
theorem wayL_in {s : ByteArray} {p n : Nat} (hp : p ≤ s.size) : 0 ≤ (wayL s p n false).1 ∧ (wayL s p n false).1 ≤ s.size := by
  have := lst_le hp
  simp only [wayL, mostL, Bool.false_eq_true, if_false]; split <;> omega
theorem wayEol_in {s : ByteArray} {p n : Nat} (hn : 1 ≤ n) : 0 ≤ (wayEol s p n).1 ∧ (wayEol s p n).1 ≤ s.size := by
  simp only [wayEol]; split
  · omega
  · have := lst_le (att_in (s := s) (m := lin s p + n - 1) (by omega)).1
    omega
theorem lineTo_in {s : ByteArray} {p : Nat} (m : Int) : 0 ≤ (lineTo s p m).1 ∧ (lineTo s p m).1 ≤ s.size := by
  have := beg_le s p
  simp only [lineTo]; split
  · omega
  · have := lst_le (att_in (s := s) (m := m.toNat) (by omega)).1
    simp only
    split <;> omega
theorem lineNo_in {s : ByteArray} (m : Int) : 0 ≤ (lineNo s m).1 ∧ (lineNo s m).1 ≤ s.size := by
  have h1 := lns_pos s
  have := frs_le (att_in (s := s) (m := (if (lns s : Int) ≤ m then (lns s : Int) - 1 else m).toNat) (by split <;> omega)).1
  simp only [lineNo]; omega
theorem lineWay_in {s : ByteArray} {p : Nat} (key : Int) (n : Nat) (given : Bool) : 0 ≤ (lineWay s p key n given).1 ∧ (lineWay s p key n given).1 ≤ s.size := by
  unfold lineWay
  split
  · exact lineTo_in _
  · split
    · exact lineTo_in _
    · exact lineNo_in _
theorem clm_in {s : ByteArray} {p : Nat} (h : p ≤ s.size) : clm s p ≤ s.size := Nat.le_trans (clm_le s p) h
theorem eitr_pos {s : ByteArray} {r : Int} {g : Bool} (h0 : 0 ≤ r) (n : Nat) : 0 ≤ eitr s g n r := by
  induction n with
  | zero => exact h0
  | succ n ih => simp only [eitr]; split <;> omega
theorem endWay_in {s : ByteArray} {p n : Nat} (g : Bool) (hp : p ≤ s.size) : 0 ≤ (endWay s g n p).1 ∧ (endWay s g n p).1 ≤ s.size := by
  unfold endWay; split
  · simp only; omega
  · have := eitr_lt (s := s) (r := p) (g := g) (by omega) (by omega) n
    have := eitr_pos (s := s) (r := p) (g := g) (by omega) n
    simp only; omega
theorem byteWay_in {s : ByteArray} {p n f : Nat} (key c : Int) (hp : p ≤ s.size) (hf : 1 ≤ f) : 0 ≤ (byteWay s p key c n f).1 ∧ (byteWay s p key c n f).1 ≤ s.size := by
  have h3 := fin_le hp
  have hU : ∀ d, -1 ≤ d → d ≤ 0 → 0 ≤ (resU d (fndU s c (fin s p) (fin s p - (p + f)) n (p + f))).1 ∧ (resU d (fndU s c (fin s p) (fin s p - (p + f)) n (p + f))).1 ≤ s.size := by
    intro d h1 h2
    cases hh : fndU s c (fin s p) (fin s p - (p + f)) n (p + f) with
    | none => simp only [resU]; omega
    | some q => have := fndU_lt _ _ _ _ hh; simp only [resU]; omega
  have hD : ∀ d, 0 ≤ d → d ≤ 1 → 0 ≤ (resD d (fndD s c (beg s p) n (p + 1 - f))).1 ∧ (resD d (fndD s c (beg s p) n (p + 1 - f))).1 ≤ s.size := by
    intro d h1 h2
    cases hh : fndD s c (beg s p) n (p + 1 - f) with
    | none => simp only [resD]; omega
    | some q => have := fndD_lt _ _ _ hh; simp only [resD]; omega
  unfold byteWay
  split
  · exact hU 0 (by omega) (by omega)
  · split
    · exact hU (-1) (by omega) (by omega)
    · split
      · exact hD 0 (by omega) (by omega)
      · exact hD 1 (by omega) (by omega)
theorem pairWay_in {s : ByteArray} {p : Nat} (hp : p ≤ s.size) (h : (pairWay s p).2.2 = false) : 0 ≤ (pairWay s p).1 ∧ (pairWay s p).1 ≤ s.size := by
  have h3 := fin_le hp
  revert h
  unfold pairWay
  split
  · intro h
    have := mtch_lt (s := s) (p := up (nobr s) (fin s p) p) (by omega)
    simp only [decide_eq_false_iff_not] at h
    simp only; omega
  · simp only; intro h; exact Bool.noConfusion h
theorem frm_pos (key : Int) (b : Bool) : 1 ≤ frm key b := by unfold frm; split <;> omega
theorem goWay_in {s : ByteArray} {p n : Nat} (key c : Int) (given b : Bool) (hp : p ≤ s.size) (hn : 1 ≤ n) (h : (goWay s p key c n given false b).2.2 = false) :
    0 ≤ (goWay s p key c n given false b).1 ∧ (goWay s p key c n given false b).1 ≤ s.size := by
  revert h
  unfold goWay
  (repeat' split) <;> intro h
  · exact wayH_in hp
  · exact wayL_in hp
  · have := beg_le s p; simp only; omega
  · have := frs_le hp; simp only; omega
  · exact wayEol_in hn
  · exact lineWay_in _ _ _
  · have := clm_in (itr_w_le (g := key == 87) hp n); simp only [wordQ, Bool.false_eq_true, if_false]; omega
  · have := itr_b_le (s := s) (p := p) (g := key == 66) n; simp only [wayB]; omega
  · exact endWay_in _ hp
  · exact byteWay_in _ _ hp (frm_pos _ _)
  · have := clm_in (itr_p_le (down := key == 125) hp n); simp only [parQ, Bool.false_eq_true, if_false]; omega
  · exact pairWay_in hp h
theorem wayOf_in {e : Ed} {x : Cmd} (hp : e.p ≤ e.t.size) (hn : 1 ≤ x.n) (h : (wayOf e x false).2.2 = false) : 0 ≤ (wayOf e x false).1 ∧ (wayOf e x false).1 ≤ e.t.size := by
  revert h
  unfold wayOf
  (repeat' split) <;> intro h
  all_goals first
    | (simp only at h; exact Bool.noConfusion h)
    | exact goWay_in _ _ _ _ hp (by omega) h
end Go.Proofs.YtlendfhehhacpaaGreat.Nib
