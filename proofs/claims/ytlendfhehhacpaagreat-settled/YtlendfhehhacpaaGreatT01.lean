/- A part. -/
import Derived.Laws.Externs
set_option linter.unusedVariables false
set_option linter.unusedSimpArgs false
set_option maxRecDepth 100000
set_option maxHeartbeats 8000000
namespace Go.Proofs.YtlendfhehhacpaaGreat.Nib
def bt (s : ByteArray) (i : Nat) : Int := if h : i < s.size then ((s[i]'h).toNat : Int) else -1
theorem bt_in {s : ByteArray} {i : Nat} (h : i < s.size) : bt s i = ((s[i]'h).toNat : Int) := by simp [bt, h]
theorem bt_out {s : ByteArray} {i : Nat} (h : ¬ i < s.size) : bt s i = -1 := by simp [bt, h]
def upF (c : Nat → Bool) (n : Nat) : Nat → Nat → Nat
 | 0, p => p
 | f + 1, p => if p < n ∧ c p = true then upF c n f (p + 1) else p
def up (c : Nat → Bool) (n p : Nat) : Nat := upF c n (n - p) p
def dn (c : Nat → Bool) : Nat → Nat
 | 0 => 0
 | p + 1 => if c p = true then dn c p else p + 1
theorem up_step {c : Nat → Bool} {n p : Nat} (h : p < n) (hc : c p = true) : up c n p = up c n (p + 1) := by
 unfold up
 obtain ⟨k, hk⟩ : ∃ k, n - p = k + 1 := ⟨n - p - 1, by omega⟩
 rw [hk, show n - (p + 1) = k by omega]
 simp [upF, h, hc]
theorem up_stop {c : Nat → Bool} {n p : Nat} (h : ¬ (p < n ∧ c p = true)) : up c n p = p := by
 unfold up
 cases hk : n - p with
 | zero => rfl
 | succ k => simp only [upF, if_neg h]
theorem upF_ge (c : Nat → Bool) (n f : Nat) : ∀ p, p ≤ upF c n f p := by
  induction f with
  | zero => intro p; simp [upF]
  | succ f ih => intro p; simp only [upF]; split
                 · have := ih (p + 1); omega
                 · omega
theorem up_ge (c : Nat → Bool) (n p : Nat) : p ≤ up c n p := upF_ge _ _ _ _
theorem upF_le (c : Nat → Bool) (n f : Nat) : ∀ p, p ≤ n → upF c n f p ≤ n := by
  induction f with
  | zero => intro p h; simpa [upF] using h
  | succ f ih => intro p h; simp only [upF]; split
                 · exact ih _ (by omega)
                 · omega
theorem up_le {c : Nat → Bool} {n p : Nat} (h : p ≤ n) : up c n p ≤ n := upF_le _ _ _ _ h
theorem upF_all (c : Nat → Bool) (n f : Nat) : ∀ p i, p ≤ i → i < upF c n f p → c i = true := by
 induction f with
 | zero => intro p i h1 h2; simp [upF] at h2; omega
 | succ f ih =>
  intro p i h1 h2
  simp only [upF] at h2
  split at h2
  ·rename_i hc
   by_cases e : p = i
   ·subst e; exact hc.2
   ·exact ih (p + 1) i (by omega) h2
  ·omega
theorem up_all {c : Nat → Bool} {n p i : Nat} (h1 : p ≤ i) (h2 : i < up c n p) : c i = true := upF_all _ _ _ _ _ h1 h2
theorem upF_end (c : Nat → Bool) (n f : Nat) : ∀ p, n - p ≤ f → upF c n f p < n → c (upF c n f p) = false := by
 induction f with
 | zero => intro p h1 h2; simp [upF] at h2; omega
 | succ f ih =>
  intro p h1 h2
  simp only [upF] at h2 ⊢
  split at h2
  ·rename_i hc; rw [if_pos hc]; exact ih _ (by omega) h2
  ·rename_i hc; rw [if_neg hc]; simp only [not_and, Bool.not_eq_true] at hc; exact hc h2
theorem up_end {c : Nat → Bool} {n p : Nat} (h : up c n p < n) : c (up c n p) = false := upF_end _ _ _ _ (Nat.le_refl _) h
theorem up_eq {c : Nat → Bool} {n p q : Nat} (h1 : p ≤ q) (h2 : q ≤ n) (h3 : ∀ i, p ≤ i → i < q → c i = true) (h4 : q < n → c q = false) : up c n p = q := by
 have g1 := up_ge c n p
 have g2 : up c n p ≤ n := up_le (by omega)
 rcases Nat.lt_trichotomy (up c n p) q with h | h | h
 ·have a := up_end (c := c) (n := n) (p := p) (by omega)
  have b := h3 _ g1 h
  rw [a] at b; cases b
 ·exact h
 ·have a := up_all (c := c) (n := n) h1 h
  have b := h4 (by omega)
  rw [a] at b; cases b
theorem dn_step {c : Nat → Bool} {p : Nat} (hc : c p = true) : dn c (p + 1) = dn c p := by simp [dn, hc]
theorem dn_stop {c : Nat → Bool} {p : Nat} (hc : c p = false) : dn c (p + 1) = p + 1 := by simp [dn, hc]
theorem dn_le (c : Nat → Bool) (p : Nat) : dn c p ≤ p := by
 induction p with
 | zero => simp [dn]
 | succ p ih => simp only [dn]; split <;> omega
theorem dn_all {c : Nat → Bool} {p i : Nat} (h1 : dn c p ≤ i) (h2 : i < p) : c i = true := by
 induction p with
 | zero => omega
 | succ p ih =>
  simp only [dn] at h1
  split at h1
  ·by_cases e : i = p
   ·subst e; assumption
   ·exact ih h1 (by omega)
  ·omega
theorem dn_end {c : Nat → Bool} {p : Nat} (h : 0 < dn c p) : c (dn c p - 1) = false := by
 induction p with
 | zero => simp [dn] at h
 | succ p ih =>
  simp only [dn] at h ⊢
  split at h
  ·rename_i hc; rw [if_pos hc]; exact ih h
  ·rename_i hc; rw [if_neg hc]; simpa using hc
theorem dn_eq {c : Nat → Bool} {p q : Nat} (h1 : q ≤ p) (h3 : ∀ i, q ≤ i → i < p → c i = true) (h4 : 0 < q → c (q - 1) = false) : dn c p = q := by
 have g := dn_le c p
 rcases Nat.lt_trichotomy (dn c p) q with h | h | h
 ·have a := dn_all (c := c) (p := p) (i := q - 1) (by omega) (by omega)
  have b := h4 (by omega)
  rw [a] at b; cases b
 ·exact h
 ·have a := dn_end (c := c) (p := p) (by omega)
  have b := h3 (dn c p - 1) (by omega) (by omega)
  rw [a] at b; cases b
def nl (s : ByteArray) (i : Nat) : Bool := bt s i == 10
def beg (s : ByteArray) (p : Nat) : Nat := dn (fun i => !nl s i) p
def fin (s : ByteArray) (p : Nat) : Nat := up (fun i => !nl s i) s.size p
def lst (s : ByteArray) (p : Nat) : Nat := if beg s p < fin s p then fin s p - 1 else beg s p
def clm (s : ByteArray) (p : Nat) : Nat := if lst s p < p then lst s p else p
def blk (c : Int) : Bool := c == 32 || c == 9
def spc (c : Int) : Bool := c == 32 || c == 9 || c == 10
def frs (s : ByteArray) (p : Nat) : Nat :=
 if up (fun i => blk (bt s i)) (fin s p) (beg s p) < fin s p then up (fun i => blk (bt s i)) (fin s p) (beg s p) else lst s p
def lin (s : ByteArray) : Nat → Nat
 | 0 => 0
 | p + 1 => if nl s p = true then lin s p + 1 else lin s p
def lns (s : ByteArray) : Nat := lin s s.size + 1
def att (s : ByteArray) : Nat → Nat
 | 0 => 0
 | n + 1 => fin s (att s n) + 1
def cls (c : Int) (great : Bool) : Int :=
 if blk c = true then 0 else if c = 10 then 1
 else if great = true ∨ 128 ≤ c ∨ c = 95 ∨ (48 ≤ c ∧ c ≤ 57) ∨ (65 ≤ c ∧ c ≤ 90) ∨ (97 ≤ c ∧ c ≤ 122) then 2 else 3
def emp (s : ByteArray) (p : Nat) : Bool := beg s p == p && fin s p == p
theorem beg_le (s : ByteArray) (p : Nat) : beg s p ≤ p := dn_le _ _
theorem fin_ge (s : ByteArray) (p : Nat) : p ≤ fin s p := up_ge _ _ _
theorem fin_le {s : ByteArray} {p : Nat} (h : p ≤ s.size) : fin s p ≤ s.size := up_le h
theorem lst_le {s : ByteArray} {p : Nat} (h : p ≤ s.size) : lst s p ≤ s.size := by
 have := beg_le s p; have := fin_le h; unfold lst; split <;> omega
theorem clm_le (s : ByteArray) (p : Nat) : clm s p ≤ p := by unfold clm; split <;> omega
theorem qo {P : Prop} (h : P := by omega) : P := h
theorem qs {P : Prop} (h : P := by simp; omega) : P := h
theorem qi {P : Prop} (h : P := by simp) : P := h
theorem qd {P : Prop} (h : P := by decide) : P := h
theorem qf {P : Prop} (h : P := by first | (simp; done) | (simp; omega)) : P := h
def like (s : ByteArray) (r : Nat) (g : Bool) (i : Nat) : Bool := cls (bt s i) g == cls (bt s r) g
def wrun (s : ByteArray) (r : Nat) (g : Bool) : Nat := up (like s r g) s.size r
def wgap (s : ByteArray) (r : Nat) (i : Nat) : Bool := spc (bt s i) && !(emp s i && i != r)
def wfrom (s : ByteArray) (r : Nat) (g : Bool) : Nat := if r < s.size ∧ spc (bt s r) = false then wrun s r g else r
def wstep (s : ByteArray) (g : Bool) (r : Nat) : Nat := up (wgap s r) s.size (wfrom s r g)
def bgap (s : ByteArray) (i : Nat) : Bool := spc (bt s (i + 1)) && !emp s (i + 1)
def bto (s : ByteArray) (r : Nat) : Nat := dn (bgap s) (r - 1)
def bstep (s : ByteArray) (g : Bool) (r : Nat) : Nat :=
 if r = 0 then 0 else if cls (bt s (bto s r)) g < 2 then bto s r else dn (like s (bto s r) g) (bto s r)
def sp (s : ByteArray) (i : Nat) : Bool := spc (bt s i)
def estep (s : ByteArray) (g : Bool) (q0 : Nat) : Int :=
 if up (sp s) s.size q0 < s.size then (up (like s (up (sp s) s.size q0) g) s.size (up (sp s) s.size q0 + 1) : Int) - 1 else -1
theorem cls_spc {c : Int} {g : Bool} (h : spc c = true) : cls c g < 2 := by
 unfold cls blk
 simp only [spc, Bool.or_eq_true, beq_iff_eq] at h
 rcases h with (h | h) | h <;> subst h <;> simp
theorem cls_nsp {c : Int} {g : Bool} (h : spc c = false) : 2 ≤ cls c g := by
 unfold cls blk
 simp only [spc, Bool.or_eq_false_iff, beq_eq_false_iff_ne, ne_eq] at h
 obtain ⟨⟨h1, h2⟩, h3⟩ := h
 simp only [h1, h2, h3, beq_iff_eq, Bool.or_eq_true, or_self, if_false]
 split <;> omega
theorem cls_lo (c : Int) (g : Bool) : 0 ≤ cls c g := by unfold cls; (repeat' split) <;> omega
theorem cls_hi (c : Int) (g : Bool) : cls c g ≤ 3 := by unfold cls; (repeat' split) <;> omega
theorem like_self (s : ByteArray) (r : Nat) (g : Bool) : like s r g r = true := by simp [like]
theorem wfrom_le {s : ByteArray} {r : Nat} {g : Bool} (h : r ≤ s.size) : wfrom s r g ≤ s.size := by
 unfold wfrom; split
 ·exact up_le h
 ·exact h
theorem wfrom_ge (s : ByteArray) (r : Nat) (g : Bool) : r ≤ wfrom s r g := by
 unfold wfrom; split
 ·exact up_ge _ _ _
 ·exact Nat.le_refl _
theorem wstep_le {s : ByteArray} {r : Nat} {g : Bool} (h : r ≤ s.size) : wstep s g r ≤ s.size := up_le (wfrom_le h)
theorem bto_le (s : ByteArray) (r : Nat) : bto s r ≤ r - 1 := dn_le _ _
theorem bstep_le (s : ByteArray) (r : Nat) (g : Bool) : bstep s g r ≤ r := by
 have h := bto_le s r
 unfold bstep; split
 ·omega
 ·split
  ·omega
  ·have := dn_le (like s (bto s r) g) (bto s r); omega
theorem estep_lt (s : ByteArray) (q : Nat) (g : Bool) : estep s g q < s.size := by
 unfold estep; split
 ·rename_i h; have := up_le (c := like s (up (sp s) s.size q) g) (n := s.size) (p := up (sp s) s.size q + 1) qo; omega
 ·omega
theorem estep_ge {s : ByteArray} {q : Nat} {g : Bool} (h : estep s g q ≠ -1) : (q : Int) ≤ estep s g q := by
 unfold estep at h ⊢
 have a := up_ge (sp s) s.size q
 have b := up_ge (like s (up (sp s) s.size q) g) s.size (up (sp s) s.size q + 1)
 split
 ·omega
 ·rename_i hh; rw [if_neg hh] at h; omega
def itr (f : Nat → Nat) : Nat → Nat → Nat
 | 0, p => p
 | n + 1, p => f (itr f n p)
theorem lin_mono {s : ByteArray} {a b : Nat} (h : a ≤ b) : lin s a ≤ lin s b := by
  induction b with
  | zero => have : a = 0 := by omega
            subst this; exact Nat.le_refl _
  | succ b ih =>
    by_cases e : a = b + 1
    · subst e; exact Nat.le_refl _
    · have := ih qo; simp only [lin]; split <;> omega
theorem lin_flat {s : ByteArray} {a b : Nat} (h : a ≤ b) (hn : ∀ i, a ≤ i → i < b → nl s i = false) : lin s b = lin s a := by
  induction b with
  | zero => have : a = 0 := by omega
            subst this; rfl
  | succ b ih =>
    by_cases e : a = b + 1
    · subst e; rfl
    · have h1 := ih qo (fun i h2 h3 => hn i h2 qo)
      have h2 := hn b qo qo
      simp [lin, h2, h1]
theorem fin_no {s : ByteArray} {p i : Nat} (h1 : p ≤ i) (h2 : i < fin s p) : nl s i = false := by
 have := up_all (c := fun i => !nl s i) h1 h2; simpa using this
theorem fin_nl {s : ByteArray} {p : Nat} (h : fin s p < s.size) : nl s (fin s p) = true := by
 have := up_end (c := fun i => !nl s i) h; simpa [fin] using this
theorem beg_no {s : ByteArray} {p i : Nat} (h1 : beg s p ≤ i) (h2 : i < p) : nl s i = false := by
 have := dn_all (c := fun i => !nl s i) h1 h2; simpa using this
theorem beg_nl {s : ByteArray} {p : Nat} (h : 0 < beg s p) : nl s (beg s p - 1) = true := by
 have := dn_end (c := fun i => !nl s i) h; simpa [beg] using this
theorem lin_fin (s : ByteArray) (p : Nat) : lin s (fin s p) = lin s p := lin_flat (fin_ge s p) (fun _ h1 h2 => fin_no h1 h2)
theorem lin_beg (s : ByteArray) (p : Nat) : lin s (beg s p) = lin s p := (lin_flat (beg_le s p) (fun _ h1 h2 => beg_no h1 h2)).symm
theorem att_in {s : ByteArray} {m : Nat} (h : m < lns s) : att s m ≤ s.size ∧ lin s (att s m) = m := by
 induction m with
 | zero => simp [att, lin]
 | succ m ih =>
  obtain ⟨h1, h2⟩ := ih qo
  have hf := fin_le h1
  have hl := lin_fin s (att s m)
  have hlt : fin s (att s m) < s.size := by
   by_cases e : fin s (att s m) = s.size
   ·rw [e, h2] at hl; unfold lns at h; omega
   ·omega
  have hn := fin_nl hlt
  refine ⟨by simp only [att]; omega, ?_⟩
  show lin s (fin s (att s m) + 1) = m + 1
  simp [lin, hn, hl, h2]
theorem lin_lt {s : ByteArray} {p : Nat} (h : p ≤ s.size) : lin s p < lns s := by
 have := lin_mono (s := s) h; unfold lns; omega
theorem lns_pos (s : ByteArray) : 1 ≤ lns s := by unfold lns; omega
def lineTo (s : ByteArray) (p : Nat) (m : Int) : Int × Int × Bool :=
 if m < 0 ∨ (lns s : Int) ≤ m then (0, 0, true)
 else (if (lst s (att s m.toNat) : Int) < (att s m.toNat : Int) + p - beg s p then (lst s (att s m.toNat) : Int) else (att s m.toNat : Int) + p - beg s p, 2, false)
def lineNo (s : ByteArray) (m : Int) : Int × Int × Bool :=
 (frs s (att s (if (lns s : Int) ≤ m then (lns s : Int) - 1 else m).toNat), 2, false)
def lineWay (s : ByteArray) (p : Nat) (key : Int) (n : Nat) (given : Bool) : Int × Int × Bool :=
 if key = 106 then lineTo s p (lin s p + n) else if key = 107 then lineTo s p (lin s p - n)
 else lineNo s (if given = true then (n : Int) - 1 else if key = 71 then (lns s : Int) - 1 else 0)
def wordQ (s : ByteArray) (p n : Nat) (g v : Bool) : Nat :=
 if v = true then
  (if lin s (itr (wstep s g) n p) ≠ lin s (itr (wstep s g) (n - 1) p) ∧ fin s (itr (wstep s g) (n - 1) p) ≠ itr (wstep s g) (n - 1) p then fin s (itr (wstep s g) (n - 1) p) else itr (wstep s g) n p)
 else clm s (itr (wstep s g) n p)
def eitr (s : ByteArray) (g : Bool) : Nat → Int → Int
 | 0, r => r
 | n + 1, r => if estep s g (eitr s g n r + 1).toNat < 0 then eitr s g n r else estep s g (eitr s g n r + 1).toNat
def endWay (s : ByteArray) (g : Bool) (n : Nat) (r : Int) : Int × Int × Bool :=
 if estep s g (r + 1).toNat < 0 then (0, 0, true) else (eitr s g n r, 1, false)
theorem itr_w_le {s : ByteArray} {p : Nat} {g : Bool} (h : p ≤ s.size) (n : Nat) : itr (wstep s g) n p ≤ s.size := by
 induction n with
 | zero => exact h
 | succ n ih => exact wstep_le ih
theorem itr_b_le {s : ByteArray} {p : Nat} {g : Bool} (n : Nat) : itr (bstep s g) n p ≤ p := by
 induction n with
 | zero => exact Nat.le_refl _
 | succ n ih => exact Nat.le_trans (bstep_le s _ g) ih
theorem eitr_lt {s : ByteArray} {r : Int} {g : Bool} (h0 : -1 ≤ r) (h : r ≤ s.size) (n : Nat) : -1 ≤ eitr s g n r ∧ eitr s g n r ≤ s.size := by
 induction n with
 | zero => exact ⟨h0, h⟩
 | succ n ih => simp only [eitr]; have := estep_lt s (eitr s g n r + 1).toNat g; split <;> omega
def fndU (s : ByteArray) (c : Int) (e : Nat) : Nat → Nat → Nat → Option Nat
 | 0, _, _ => none
 | f + 1, n, i => if i < e then (if bt s i = c then (if n = 1 then some i else fndU s c e f (n - 1) (i + 1)) else fndU s c e f n (i + 1)) else none
def fndD (s : ByteArray) (c : Int) (b : Nat) : Nat → Nat → Option Nat
 | _, 0 => none
 | n, j + 1 => if b ≤ j then (if bt s j = c then (if n = 1 then some j else fndD s c b (n - 1) j) else fndD s c b n j) else none
def resU (d : Int) : Option Nat → Int × Int × Bool
 | some i => ((i : Int) + d, 1, false)
 | none => (0, 0, true)
def resD (d : Int) : Option Nat → Int × Int × Bool
 | some i => ((i : Int) + d, 0, false)
 | none => (0, 0, true)
def byteWay (s : ByteArray) (p : Nat) (key c : Int) (n from' : Nat) : Int × Int × Bool :=
 if key = 102 then resU 0 (fndU s c (fin s p) (fin s p - (p + from')) n (p + from'))
 else if key = 116 then resU (-1) (fndU s c (fin s p) (fin s p - (p + from')) n (p + from'))
 else if key = 70 then resD 0 (fndD s c (beg s p) n (p + 1 - from'))
 else resD 1 (fndD s c (beg s p) n (p + 1 - from'))
def frm (key : Int) (b : Bool) : Nat := if b = true ∧ (key = 116 ∨ key = 84) then 2 else 1
theorem fndU_lt {s : ByteArray} {c : Int} {e : Nat} : ∀ (f n i q : Nat), fndU s c e f n i = some q → i ≤ q ∧ q < e := by
 intro f
 induction f with
 | zero => intro n i q h; simp [fndU] at h
 | succ f ih =>
  intro n i q h
  simp only [fndU] at h
  split at h
  ·split at h
   ·split at h
    ·injection h with h; omega
    ·have := ih _ _ _ h; omega
   ·have := ih _ _ _ h; omega
  ·cases h
theorem fndD_lt {s : ByteArray} {c : Int} {b : Nat} : ∀ (j n q : Nat), fndD s c b n j = some q → b ≤ q ∧ q < j := by
 intro j
 induction j with
 | zero => intro n q h; simp [fndD] at h
 | succ j ih =>
  intro n q h
  simp only [fndD] at h
  split at h
  ·split at h
   ·split at h
    ·injection h with h; omega
    ·have := ih _ _ h; omega
   ·have := ih _ _ h; omega
  ·cases h
def parB (s : ByteArray) (k : Nat) : Bool := emp s (att s k) && !emp s (att s (k - 1))
def parA (s : ByteArray) (k : Nat) : Bool := emp s (att s k) && !emp s (att s (k + 1))
def parD (s : ByteArray) : Nat → Nat → Nat
 | 0, _ => s.size
 | f + 1, k => if parB s k = true then att s k else parD s f (k + 1)
def parU (s : ByteArray) : Nat → Nat
 | 0 => 0
 | k + 1 => if parA s k = true then att s k else parU s k
def parStep (s : ByteArray) (down : Bool) (q : Nat) : Nat :=
 if down = true then parD s (lns s - 1 - lin s q) (lin s q + 1) else parU s (lin s q)
def parQ (s : ByteArray) (p n : Nat) (down v : Bool) : Nat :=
 if v = true then itr (parStep s down) n p else clm s (itr (parStep s down) n p)
theorem parD_le {s : ByteArray} : ∀ f k, k + f ≤ lns s → parD s f k ≤ s.size := by
 intro f
 induction f with
 | zero => intro k _; simp [parD]
 | succ f ih =>
  intro k h
  simp only [parD]; split
  ·exact (att_in qo).1
  ·exact ih _ qo
theorem parU_le {s : ByteArray} : ∀ k, k ≤ lns s → parU s k ≤ s.size := by
 intro k
 induction k with
 | zero => intro _; simp [parU]
 | succ k ih =>
  intro h
  simp only [parU]; split
  ·exact (att_in qo).1
  ·exact ih qo
theorem parStep_le {s : ByteArray} {down : Bool} {q : Nat} (h : q ≤ s.size) : parStep s down q ≤ s.size := by
 have := lin_lt h
 unfold parStep; split
 ·exact parD_le _ _ qo
 ·exact parU_le _ qo
theorem itr_p_le {s : ByteArray} {p : Nat} {down : Bool} (h : p ≤ s.size) (n : Nat) : itr (parStep s down) n p ≤ s.size := by
 induction n with
 | zero => exact h
 | succ n ih => exact parStep_le ih
def prt (c : Int) : Int :=
 if c = 40 then 41 else if c = 91 then 93 else if c = 123 then 125 else if c = 41 then 40 else if c = 93 then 91 else if c = 125 then 123 else 0
def opn (c : Int) : Bool := c == 40 || c == 91 || c == 123
def dep (s : ByteArray) (own other : Int) (n : Int) (i : Nat) : Int := n + (if bt s i = own then 1 else 0) - (if bt s i = other then 1 else 0)
def mtU (s : ByteArray) (own other : Int) : Nat → Int → Nat → Int
 | 0, _, _ => -1
 | f + 1, n, i => if i < s.size then (if dep s own other n i = 0 then (i : Int) else mtU s own other f (dep s own other n i) (i + 1)) else -1
def mtD (s : ByteArray) (own other : Int) : Int → Nat → Int
 | _, 0 => -1
 | n, j + 1 => if dep s own other n j = 0 then (j : Int) else mtD s own other (dep s own other n j) j
def mtch (s : ByteArray) (p : Nat) : Int :=
 if opn (bt s p) = true then mtU s (bt s p) (prt (bt s p)) (s.size - p) 0 p else mtD s (bt s p) (prt (bt s p)) 0 (p + 1)
def nobr (s : ByteArray) (i : Nat) : Bool := prt (bt s i) == 0
def pairWay (s : ByteArray) (p : Nat) : Int × Int × Bool :=
 if up (nobr s) (fin s p) p < fin s p then (mtch s (up (nobr s) (fin s p) p), 1, decide (mtch s (up (nobr s) (fin s p) p) < 0)) else (0, 0, true)
theorem mtU_lt {s : ByteArray} {a b : Int} : ∀ f n i, mtU s a b f n i < s.size ∧ -1 ≤ mtU s a b f n i := by
 intro f
 induction f with
 | zero => intro n i; simp only [mtU]; omega
 | succ f ih =>
  intro n i; simp only [mtU]; split
  ·split
   ·omega
   ·exact ih _ _
  ·omega
theorem mtD_lt {s : ByteArray} {a b : Int} : ∀ j n, mtD s a b n j < j ∧ -1 ≤ mtD s a b n j := by
 intro j
 induction j with
 | zero => intro n; simp only [mtD]; omega
 | succ j ih =>
  intro n; simp only [mtD]; split
  ·omega
  ·have := ih (dep s a b n j); omega
theorem mtch_lt {s : ByteArray} {p : Nat} (h : p < s.size) : mtch s p < s.size ∧ -1 ≤ mtch s p := by
 unfold mtch; split
 ·exact mtU_lt _ _ _
 ·have := mtD_lt (s := s) (a := bt s p) (b := prt (bt s p)) (p + 1) 0; omega
theorem bt_cut {s : ByteArray} {a b i : Nat} (hb : b ≤ s.size) (h : a + i < b) : bt (s.extract a b) i = bt s (a + i) := by
 have h1 : i < (s.extract a b).size := by rw [ByteArray.size_extract]; omega
 rw [bt_in h1, bt_in qo, ByteArray.getElem_extract]
theorem first_up (s : ByteArray) (c : Int) (h0 : 0 ≤ c) (h1 : c < 256) :
  Go.firstIdx s c.toNat.toUInt8 = if up (fun i => bt s i != c) s.size 0 < s.size then ((up (fun i => bt s i != c) s.size 0 : Nat) : Int) else -1 := by
 have hq : ∀ i, i < s.size → ((s[i]! == c.toNat.toUInt8) = (bt s i == c)) := by
  intro i hi
  rw [getElem!_pos s i hi, bt_in hi, Bool.eq_iff_iff]
  simp only [beq_iff_eq]
  constructor
  ·intro h
   rw [h]
   simp only [Nat.toUInt8, UInt8.ofNat, UInt8.toNat, BitVec.toNat_ofNat]
   omega
  ·intro h
   apply UInt8.toNat_inj.1
   simp only [Nat.toUInt8, UInt8.ofNat, UInt8.toNat, BitVec.toNat_ofNat]
   simp only [UInt8.toNat] at h
   omega
 unfold Go.firstIdx
 cases hf : (List.range s.size).find? (fun i => s[i]! == c.toNat.toUInt8) with
 | none =>
  rw [List.find?_range_eq_none] at hf
  have hu : up (fun i => bt s i != c) s.size 0 = s.size := up_eq (Nat.zero_le _) (Nat.le_refl _) (fun i _ hi => by have := hf i hi; rw [hq i hi] at this; simpa using this) (fun h => absurd h (Nat.lt_irrefl _))
  rw [hu, if_neg (Nat.lt_irrefl _)]
 | some k =>
  rw [List.find?_range_eq_some] at hf
  obtain ⟨hk, hm, hl⟩ := hf
  have hm' : k < s.size := List.mem_range.1 hm
  have hu : up (fun i => bt s i != c) s.size 0 = k := up_eq (Nat.zero_le _) (Nat.le_of_lt hm') (fun i _ hi => by have := hl i hi; rw [hq i qo] at this; simpa using this) (fun _ => by rw [hq k hm'] at hk; simpa using hk)
  rw [hu, if_pos hm']
theorem dn_cut {s : ByteArray} {p : Nat} (h : p ≤ s.size) : dn (fun i => bt (s.extract 0 p) i != 10) p = beg s p := by
 refine dn_eq (beg_le s p) (fun i h1 h2 => ?_) (fun h1 => ?_)
 ·rw [bt_cut h qo]
  have := beg_no h1 h2
  simp only [nl, beq_eq_false_iff_ne] at this
  simpa using this
 ·have hb := beg_le s p
  rw [bt_cut h qo]
  have := beg_nl h1
  simp only [nl, beq_iff_eq] at this
  simpa using this
theorem up_cut {s : ByteArray} {p : Nat} (h : p ≤ s.size) : up (fun i => bt (s.extract p s.size) i != 10) (s.size - p) 0 = fin s p - p := by
 have hg := fin_ge s p
 have hl := fin_le h
 refine up_eq (Nat.zero_le _) qo (fun i _ h2 => ?_) (fun h1 => ?_)
 ·rw [bt_cut (Nat.le_refl _) qo]
  have := fin_no (s := s) (p := p) (i := p + i) qo qo
  simp only [nl, beq_eq_false_iff_ne] at this
  simpa using this
 ·rw [bt_cut (Nat.le_refl _) qo, show p + (fin s p - p) = fin s p by omega]
  have := fin_nl (s := s) (p := p) qo
  simp only [nl, beq_iff_eq] at this
  simpa using this
