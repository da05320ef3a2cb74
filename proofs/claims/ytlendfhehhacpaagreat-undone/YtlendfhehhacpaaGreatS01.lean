/- A part. -/
import Derived.Laws.Externs
set_option linter.unusedVariables false
set_option linter.unusedSimpArgs false
set_option maxRecDepth 100000
set_option maxHeartbeats 8000000
namespace Go.Proofs.YtlendfhehhacpaaGreat.Nib
def bt (s : ByteArray) (i : Nat) : Int := if h : i < s.size then ((s[i]'h).toNat : Int) else -1
theorem bt_in {s : ByteArray} {i : Nat} (h : i < s.size) : bt s i = ((s[i]'h).toNat : Int) := by simp [bt, h]
theorem bt_out {s : ByteArray} {i : Nat} (h : ¬ i < s.size) : bt s i = -1 := by simp [bt, h]
def upF (c : Nat → Bool) (n : Nat) : Nat → Nat → Nat
 | 0, p => p
 | f + 1, p => if p < n ∧ c p = true then upF c n f (p + 1) else p
def up (c : Nat → Bool) (n p : Nat) : Nat := upF c n (n - p) p
def dn (c : Nat → Bool) : Nat → Nat
 | 0 => 0
 | p + 1 => if c p = true then dn c p else p + 1
theorem up_step {c : Nat → Bool} {n p : Nat} (h : p < n) (hc : c p = true) : up c n p = up c n (p + 1) := by
 unfold up
 obtain ⟨k, hk⟩ : ∃ k, n - p = k + 1 := ⟨n - p - 1, by omega⟩
 rw [hk, show n - (p + 1) = k by omega]
 simp [upF, h, hc]
theorem up_stop {c : Nat → Bool} {n p : Nat} (h : ¬ (p < n ∧ c p = true)) : up c n p = p := by
 unfold up
 cases hk : n - p with
 | zero => rfl
 | succ k => simp only [upF, if_neg h]
theorem upF_ge (c : Nat → Bool) (n f : Nat) : ∀ p, p ≤ upF c n f p := by
  induction f with
  | zero => intro p; simp [upF]
  | succ f ih => intro p; simp only [upF]; split
                 · have := ih (p + 1); omega
                 · omega
theorem up_ge (c : Nat → Bool) (n p : Nat) : p ≤ up c n p := upF_ge _ _ _ _
theorem upF_le (c : Nat → Bool) (n f : Nat) : ∀ p, p ≤ n → upF c n f p ≤ n := by
  induction f with
  | zero => intro p h; simpa [upF] using h
  | succ f ih => intro p h; simp only [upF]; split
                 · exact ih _ (by omega)
                 · omega
theorem up_le {c : Nat → Bool} {n p : Nat} (h : p ≤ n) : up c n p ≤ n := upF_le _ _ _ _ h
theorem upF_all (c : Nat → Bool) (n f : Nat) : ∀ p i, p ≤ i → i < upF c n f p → c i = true := by
 induction f with
 | zero => intro p i h1 h2; simp [upF] at h2; omega
 | succ f ih =>
  intro p i h1 h2
  simp only [upF] at h2
  split at h2
  ·rename_i hc
   by_cases e : p = i
   ·subst e; exact hc.2
   ·exact ih (p + 1) i (by omega) h2
  ·omega
theorem up_all {c : Nat → Bool} {n p i : Nat} (h1 : p ≤ i) (h2 : i < up c n p) : c i = true := upF_all _ _ _ _ _ h1 h2
theorem upF_end (c : Nat → Bool) (n f : Nat) : ∀ p, n - p ≤ f → upF c n f p < n → c (upF c n f p) = false := by
 induction f with
 | zero => intro p h1 h2; simp [upF] at h2; omega
 | succ f ih =>
  intro p h1 h2
  simp only [upF] at h2 ⊢
  split at h2
  ·rename_i hc; rw [if_pos hc]; exact ih _ (by omega) h2
  ·rename_i hc; rw [if_neg hc]; simp only [not_and, Bool.not_eq_true] at hc; exact hc h2
theorem up_end {c : Nat → Bool} {n p : Nat} (h : up c n p < n) : c (up c n p) = false := upF_end _ _ _ _ (Nat.le_refl _) h
theorem up_eq {c : Nat → Bool} {n p q : Nat} (h1 : p ≤ q) (h2 : q ≤ n) (h3 : ∀ i, p ≤ i → i < q → c i = true) (h4 : q < n → c q = false) : up c n p = q := by
 have g1 := up_ge c n p
 have g2 : up c n p ≤ n := up_le (by omega)
 rcases Nat.lt_trichotomy (up c n p) q with h | h | h
 ·have a := up_end (c := c) (n := n) (p := p) (by omega)
  have b := h3 _ g1 h
  rw [a] at b; cases b
 ·exact h
 ·have a := up_all (c := c) (n := n) h1 h
  have b := h4 (by omega)
  rw [a] at b; cases b
theorem dn_step {c : Nat → Bool} {p : Nat} (hc : c p = true) : dn c (p + 1) = dn c p := by simp [dn, hc]
theorem dn_stop {c : Nat → Bool} {p : Nat} (hc : c p = false) : dn c (p + 1) = p + 1 := by simp [dn, hc]
theorem dn_le (c : Nat → Bool) (p : Nat) : dn c p ≤ p := by
 induction p with
 | zero => simp [dn]
 | succ p ih => simp only [dn]; split <;> omega
theorem dn_all {c : Nat → Bool} {p i : Nat} (h1 : dn c p ≤ i) (h2 : i < p) : c i = true := by
 induction p with
 | zero => omega
 | succ p ih =>
  simp only [dn] at h1
  split at h1
  ·by_cases e : i = p
   ·subst e; assumption
   ·exact ih h1 (by omega)
  ·omega
theorem dn_end {c : Nat → Bool} {p : Nat} (h : 0 < dn c p) : c (dn c p - 1) = false := by
 induction p with
 | zero => simp [dn] at h
 | succ p ih =>
  simp only [dn] at h ⊢
  split at h
  ·rename_i hc; rw [if_pos hc]; exact ih h
  ·rename_i hc; rw [if_neg hc]; simpa using hc
theorem dn_eq {c : Nat → Bool} {p q : Nat} (h1 : q ≤ p) (h3 : ∀ i, q ≤ i → i < p → c i = true) (h4 : 0 < q → c (q - 1) = false) : dn c p = q := by
 have g := dn_le c p
 rcases Nat.lt_trichotomy (dn c p) q with h | h | h
 ·have a := dn_all (c := c) (p := p) (i := q - 1) (by omega) (by omega)
  have b := h4 (by omega)
  rw [a] at b; cases b
 ·exact h
 ·have a := dn_end (c := c) (p := p) (by omega)
  have b := h3 (dn c p - 1) (by omega) (by omega)
  rw [a] at b; cases b
def nl (s : ByteArray) (i : Nat) : Bool := bt s i == 10
def beg (s : ByteArray) (p : Nat) : Nat := dn (fun i => !nl s i) p
def fin (s : ByteArray) (p : Nat) : Nat := up (fun i => !nl s i) s.size p
def lst (s : ByteArray) (p : Nat) : Nat := if beg s p < fin s p then fin s p - 1 else beg s p
def clm (s : ByteArray) (p : Nat) : Nat := if lst s p < p then lst s p else p
def blk (c : Int) : Bool := c == 32 || c == 9
def spc (c : Int) : Bool := c == 32 || c == 9 || c == 10
def frs (s : ByteArray) (p : Nat) : Nat :=
 if up (fun i => blk (bt s i)) (fin s p) (beg s p) < fin s p then up (fun i => blk (bt s i)) (fin s p) (beg s p) else lst s p
def lin (s : ByteArray) : Nat → Nat
 | 0 => 0
 | p + 1 => if nl s p = true then lin s p + 1 else lin s p
def lns (s : ByteArray) : Nat := lin s s.size + 1
def att (s : ByteArray) : Nat → Nat
 | 0 => 0
 | n + 1 => fin s (att s n) + 1
def cls (c : Int) (great : Bool) : Int :=
 if blk c = true then 0 else if c = 10 then 1
 else if great = true ∨ 128 ≤ c ∨ c = 95 ∨ (48 ≤ c ∧ c ≤ 57) ∨ (65 ≤ c ∧ c ≤ 90) ∨ (97 ≤ c ∧ c ≤ 122) then 2 else 3
def emp (s : ByteArray) (p : Nat) : Bool := beg s p == p && fin s p == p
theorem beg_le (s : ByteArray) (p : Nat) : beg s p ≤ p := dn_le _ _
theorem fin_ge (s : ByteArray) (p : Nat) : p ≤ fin s p := up_ge _ _ _
theorem fin_le {s : ByteArray} {p : Nat} (h : p ≤ s.size) : fin s p ≤ s.size := up_le h
theorem lst_le {s : ByteArray} {p : Nat} (h : p ≤ s.size) : lst s p ≤ s.size := by
 have := beg_le s p; have := fin_le h; unfold lst; split <;> omega
theorem clm_le (s : ByteArray) (p : Nat) : clm s p ≤ p := by unfold clm; split <;> omega
theorem qo {P : Prop} (h : P := by omega) : P := h
theorem qs {P : Prop} (h : P := by simp; omega) : P := h
theorem qi {P : Prop} (h : P := by simp) : P := h
theorem qd {P : Prop} (h : P := by decide) : P := h
theorem qf {P : Prop} (h : P := by first | (simp; done) | (simp; omega)) : P := h
def like (s : ByteArray) (r : Nat) (g : Bool) (i : Nat) : Bool := cls (bt s i) g == cls (bt s r) g
def wrun (s : ByteArray) (r : Nat) (g : Bool) : Nat := up (like s r g) s.size r
def wgap (s : ByteArray) (r : Nat) (i : Nat) : Bool := spc (bt s i) && !(emp s i && i != r)
def wfrom (s : ByteArray) (r : Nat) (g : Bool) : Nat := if r < s.size ∧ spc (bt s r) = false then wrun s r g else r
def wstep (s : ByteArray) (g : Bool) (r : Nat) : Nat := up (wgap s r) s.size (wfrom s r g)
def bgap (s : ByteArray) (i : Nat) : Bool := spc (bt s (i + 1)) && !emp s (i + 1)
def bto (s : ByteArray) (r : Nat) : Nat := dn (bgap s) (r - 1)
def bstep (s : ByteArray) (g : Bool) (r : Nat) : Nat :=
 if r = 0 then 0 else if cls (bt s (bto s r)) g < 2 then bto s r else dn (like s (bto s r) g) (bto s r)
def sp (s : ByteArray) (i : Nat) : Bool := spc (bt s i)
def estep (s : ByteArray) (g : Bool) (q0 : Nat) : Int :=
 if up (sp s) s.size q0 < s.size then (up (like s (up (sp s) s.size q0) g) s.size (up (sp s) s.size q0 + 1) : Int) - 1 else -1
theorem cls_spc {c : Int} {g : Bool} (h : spc c = true) : cls c g < 2 := by
 unfold cls blk
 simp only [spc, Bool.or_eq_true, beq_iff_eq] at h
 rcases h with (h | h) | h <;> subst h <;> simp
theorem cls_nsp {c : Int} {g : Bool} (h : spc c = false) : 2 ≤ cls c g := by
 unfold cls blk
 simp only [spc, Bool.or_eq_false_iff, beq_eq_false_iff_ne, ne_eq] at h
 obtain ⟨⟨h1, h2⟩, h3⟩ := h
 simp only [h1, h2, h3, beq_iff_eq, Bool.or_eq_true, or_self, if_false]
 split <;> omega
theorem cls_lo (c : Int) (g : Bool) : 0 ≤ cls c g := by unfold cls; (repeat' split) <;> omega
theorem cls_hi (c : Int) (g : Bool) : cls c g ≤ 3 := by unfold cls; (repeat' split) <;> omega
theorem like_self (s : ByteArray) (r : Nat) (g : Bool) : like s r g r = true := by simp [like]
theorem wfrom_le {s : ByteArray} {r : Nat} {g : Bool} (h : r ≤ s.size) : wfrom s r g ≤ s.size := by
 unfold wfrom; split
 ·exact up_le h
 ·exact h
theorem wfrom_ge (s : ByteArray) (r : Nat) (g : Bool) : r ≤ wfrom s r g := by
 unfold wfrom; split
 ·exact up_ge _ _ _
 ·exact Nat.le_refl _
theorem wstep_le {s : ByteArray} {r : Nat} {g : Bool} (h : r ≤ s.size) : wstep s g r ≤ s.size := up_le (wfrom_le h)
theorem bto_le (s : ByteArray) (r : Nat) : bto s r ≤ r - 1 := dn_le _ _
theorem bstep_le (s : ByteArray) (r : Nat) (g : Bool) : bstep s g r ≤ r := by
 have h := bto_le s r
 unfold bstep; split
 ·omega
 ·split
  ·omega
  ·have := dn_le (like s (bto s r) g) (bto s r); omega
theorem estep_lt (s : ByteArray) (q : Nat) (g : Bool) : estep s g q < s.size := by
 unfold estep; split
 ·rename_i h; have := up_le (c := like s (up (sp s) s.size q) g) (n := s.size) (p := up (sp s) s.size q + 1) qo; omega
 ·omega
theorem estep_ge {s : ByteArray} {q : Nat} {g : Bool} (h : estep s g q ≠ -1) : (q : Int) ≤ estep s g q := by
 unfold estep at h ⊢
 have a := up_ge (sp s) s.size q
 have b := up_ge (like s (up (sp s) s.size q) g) s.size (up (sp s) s.size q + 1)
 split
 ·omega
 ·rename_i hh; rw [if_neg hh] at h; omega
def itr (f : Nat → Nat) : Nat → Nat → Nat
 | 0, p => p
 | n + 1, p => f (itr f n p)
theorem lin_mono {s : ByteArray} {a b : Nat} (h : a ≤ b) : lin s a ≤ lin s b := by
  induction b with
  | zero => have : a = 0 := by omega
            subst this; exact Nat.le_refl _
  | succ b ih =>
    by_cases e : a = b + 1
    · subst e; exact Nat.le_refl _
    · have := ih qo; simp only [lin]; split <;> omega
theorem lin_flat {s : ByteArray} {a b : Nat} (h : a ≤ b) (hn : ∀ i, a ≤ i → i < b → nl s i = false) : lin s b = lin s a := by
  induction b with
  | zero => have : a = 0 := by omega
            subst this; rfl
  | succ b ih =>
    by_cases e : a = b + 1
    · subst e; rfl
    · have h1 := ih qo (fun i h2 h3 => hn i h2 qo)
      have h2 := hn b qo qo
      simp [lin, h2, h1]
theorem fin_no {s : ByteArray} {p i : Nat} (h1 : p ≤ i) (h2 : i < fin s p) : nl s i = false := by
 have := up_all (c := fun i => !nl s i) h1 h2; simpa using this
theorem fin_nl {s : ByteArray} {p : Nat} (h : fin s p < s.size) : nl s (fin s p) = true := by
 have := up_end (c := fun i => !nl s i) h; simpa [fin] using this
theorem beg_no {s : ByteArray} {p i : Nat} (h1 : beg s p ≤ i) (h2 : i < p) : nl s i = false := by
 have := dn_all (c := fun i => !nl s i) h1 h2; simpa using this
theorem beg_nl {s : ByteArray} {p : Nat} (h : 0 < beg s p) : nl s (beg s p - 1) = true := by
 have := dn_end (c := fun i => !nl s i) h; simpa [beg] using this
theorem lin_fin (s : ByteArray) (p : Nat) : lin s (fin s p) = lin s p := lin_flat (fin_ge s p) (fun _ h1 h2 => fin_no h1 h2)
theorem lin_beg (s : ByteArray) (p : Nat) : lin s (beg s p) = lin s p := (lin_flat (beg_le s p) (fun _ h1 h2 => beg_no h1 h2)).symm
theorem att_in {s : ByteArray} {m : Nat} (h : m < lns s) : att s m ≤ s.size ∧ lin s (att s m) = m := by
 induction m with
 | zero => simp [att, lin]
 | succ m ih =>
  obtain ⟨h1, h2⟩ := ih qo
  have hf := fin_le h1
  have hl := lin_fin s (att s m)
  have hlt : fin s (att s m) < s.size := by
   by_cases e : fin s (att s m) = s.size
   ·rw [e, h2] at hl; unfold lns at h; omega
   ·omega
  have hn := fin_nl hlt
  refine ⟨by simp only [att]; omega, ?_⟩
  show lin s (fin s (att s m) + 1) = m + 1
  simp [lin, hn, hl, h2]
theorem lin_lt {s : ByteArray} {p : Nat} (h : p ≤ s.size) : lin s p < lns s := by
 have := lin_mono (s := s) h; unfold lns; omega
theorem lns_pos (s : ByteArray) : 1 ≤ lns s := by unfold lns; omega
def lineTo (s : ByteArray) (p : Nat) (m : Int) : Int × Int × Bool :=
 if m < 0 ∨ (lns s : Int) ≤ m then (0, 0, true)
 else (if (lst s (att s m.toNat) : Int) < (att s m.toNat : Int) + p - beg s p then (lst s (att s m.toNat) : Int) else (att s m.toNat : Int) + p - beg s p, 2, false)
def lineNo (s : ByteArray) (m : Int) : Int × Int × Bool :=
 (frs s (att s (if (lns s : Int) ≤ m then (lns s : Int) - 1 else m).toNat), 2, false)
def lineWay (s : ByteArray) (p : Nat) (key : Int) (n : Nat) (given : Bool) : Int × Int × Bool :=
 if key = 106 then lineTo s p (lin s p + n) else if key = 107 then lineTo s p (lin s p - n)
 else lineNo s (if given = true then (n : Int) - 1 else if key = 71 then (lns s : Int) - 1 else 0)
def wordQ (s : ByteArray) (p n : Nat) (g v : Bool) : Nat :=
 if v = true then
  (if lin s (itr (wstep s g) n p) ≠ lin s (itr (wstep s g) (n - 1) p) ∧ fin s (itr (wstep s g) (n - 1) p) ≠ itr (wstep s g) (n - 1) p then fin s (itr (wstep s g) (n - 1) p) else itr (wstep s g) n p)
 else clm s (itr (wstep s g) n p)
def eitr (s : ByteArray) (g : Bool) : Nat → Int → Int
 | 0, r => r
 | n + 1, r => if estep s g (eitr s g n r + 1).toNat < 0 then eitr s g n r else estep s g (eitr s g n r + 1).toNat
def endWay (s : ByteArray) (g : Bool) (n : Nat) (r : Int) : Int × Int × Bool :=
 if estep s g (r + 1).toNat < 0 then (0, 0, true) else (eitr s g n r, 1, false)
theorem itr_w_le {s : ByteArray} {p : Nat} {g : Bool} (h : p ≤ s.size) (n : Nat) : itr (wstep s g) n p ≤ s.size := by
 induction n with
 | zero => exact h
 | succ n ih => exact wstep_le ih
theorem itr_b_le {s : ByteArray} {p : Nat} {g : Bool} (n : Nat) : itr (bstep s g) n p ≤ p := by
 induction n with
 | zero => exact Nat.le_refl _
 | succ n ih => exact Nat.le_trans (bstep_le s _ g) ih
theorem eitr_lt {s : ByteArray} {r : Int} {g : Bool} (h0 : -1 ≤ r) (h : r ≤ s.size) (n : Nat) : -1 ≤ eitr s g n r ∧ eitr s g n r ≤ s.size := by
 induction n with
 | zero => exact ⟨h0, h⟩
 | succ n ih => simp only [eitr]; have := estep_lt s (eitr s g n r + 1).toNat g; split <;> omega
def fndU (s : ByteArray) (c : Int) (e : Nat) : Nat → Nat → Nat → Option Nat
 | 0, _, _ => none
 | f + 1, n, i => if i < e then (if bt s i = c then (if n = 1 then some i else fndU s c e f (n - 1) (i + 1)) else fndU s c e f n (i + 1)) else none
def fndD (s : ByteArray) (c : Int) (b : Nat) : Nat → Nat → Option Nat
 | _, 0 => none
 | n, j + 1 => if b ≤ j then (if bt s j = c then (if n = 1 then some j else fndD s c b (n - 1) j) else fndD s c b n j) else none
def resU (d : Int) : Option Nat → Int × Int × Bool
 | some i => ((i : Int) + d, 1, false)
 | none => (0, 0, true)
def resD (d : Int) : Option Nat → Int × Int × Bool
 | some i => ((i : Int) + d, 0, false)
 | none => (0, 0, true)
def byteWay (s : ByteArray) (p : Nat) (key c : Int) (n from' : Nat) : Int × Int × Bool :=
 if key = 102 then resU 0 (fndU s c (fin s p) (fin s p - (p + from')) n (p + from'))
 else if key = 116 then resU (-1) (fndU s c (fin s p) (fin s p - (p + from')) n (p + from'))
 else if key = 70 then resD 0 (fndD s c (beg s p) n (p + 1 - from'))
 else resD 1 (fndD s c (beg s p) n (p + 1 - from'))
def frm (key : Int) (b : Bool) : Nat := if b = true ∧ (key = 116 ∨ key = 84) then 2 else 1
theorem fndU_lt {s : ByteArray} {c : Int} {e : Nat} : ∀ (f n i q : Nat), fndU s c e f n i = some q → i ≤ q ∧ q < e := by
 intro f
 induction f with
 | zero => intro n i q h; simp [fndU] at h
 | succ f ih =>
  intro n i q h
  simp only [fndU] at h
  split at h
  ·split at h
   ·split at h
    ·injection h with h; omega
    ·have := ih _ _ _ h; omega
   ·have := ih _ _ _ h; omega
  ·cases h
theorem fndD_lt {s : ByteArray} {c : Int} {b : Nat} : ∀ (j n q : Nat), fndD s c b n j = some q → b ≤ q ∧ q < j := by
 intro j
 induction j with
 | zero => intro n q h; simp [fndD] at h
 | succ j ih =>
  intro n q h
  simp only [fndD] at h
  split at h
  ·split at h
   ·split at h
    ·injection h with h; omega
    ·have := ih _ _ h; omega
   ·have := ih _ _ h; omega
  ·cases h
def parB (s : ByteArray) (k : Nat) : Bool := emp s (att s k) && !emp s (att s (k - 1))
def parA (s : ByteArray) (k : Nat) : Bool := emp s (att s k) && !emp s (att s (k + 1))
def parD (s : ByteArray) : Nat → Nat → Nat
 | 0, _ => s.size
 | f + 1, k => if parB s k = true then att s k else parD s f (k + 1)
def parU (s : ByteArray) : Nat → Nat
 | 0 => 0
 | k + 1 => if parA s k = true then att s k else parU s k
def parStep (s : ByteArray) (down : Bool) (q : Nat) : Nat :=
 if down = true then parD s (lns s - 1 - lin s q) (lin s q + 1) else parU s (lin s q)
def parQ (s : ByteArray) (p n : Nat) (down v : Bool) : Nat :=
 if v = true then itr (parStep s down) n p else clm s (itr (parStep s down) n p)
theorem parD_le {s : ByteArray} : ∀ f k, k + f ≤ lns s → parD s f k ≤ s.size := by
 intro f
 induction f with
 | zero => intro k _; simp [parD]
 | succ f ih =>
  intro k h
  simp only [parD]; split
  ·exact (att_in qo).1
  ·exact ih _ qo
theorem parU_le {s : ByteArray} : ∀ k, k ≤ lns s → parU s k ≤ s.size := by
 intro k
 induction k with
 | zero => intro _; simp [parU]
 | succ k ih =>
  intro h
  simp only [parU]; split
  ·exact (att_in qo).1
  ·exact ih qo
theorem parStep_le {s : ByteArray} {down : Bool} {q : Nat} (h : q ≤ s.size) : parStep s down q ≤ s.size := by
 have := lin_lt h
 unfold parStep; split
 ·exact parD_le _ _ qo
 ·exact parU_le _ qo
theorem itr_p_le {s : ByteArray} {p : Nat} {down : Bool} (h : p ≤ s.size) (n : Nat) : itr (parStep s down) n p ≤ s.size := by
 induction n with
 | zero => exact h
 | succ n ih => exact parStep_le ih
def prt (c : Int) : Int :=
 if c = 40 then 41 else if c = 91 then 93 else if c = 123 then 125 else if c = 41 then 40 else if c = 93 then 91 else if c = 125 then 123 else 0
def opn (c : Int) : Bool := c == 40 || c == 91 || c == 123
def dep (s : ByteArray) (own other : Int) (n : Int) (i : Nat) : Int := n + (if bt s i = own then 1 else 0) - (if bt s i = other then 1 else 0)
def mtU (s : ByteArray) (own other : Int) : Nat → Int → Nat → Int
 | 0, _, _ => -1
 | f + 1, n, i => if i < s.size then (if dep s own other n i = 0 then (i : Int) else mtU s own other f (dep s own other n i) (i + 1)) else -1
def mtD (s : ByteArray) (own other : Int) : Int → Nat → Int
 | _, 0 => -1
 | n, j + 1 => if dep s own other n j = 0 then (j : Int) else mtD s own other (dep s own other n j) j
def mtch (s : ByteArray) (p : Nat) : Int :=
 if opn (bt s p) = true then mtU s (bt s p) (prt (bt s p)) (s.size - p) 0 p else mtD s (bt s p) (prt (bt s p)) 0 (p + 1)
def nobr (s : ByteArray) (i : Nat) : Bool := prt (bt s i) == 0
def pairWay (s : ByteArray) (p : Nat) : Int × Int × Bool :=
 if up (nobr s) (fin s p) p < fin s p then (mtch s (up (nobr s) (fin s p) p), 1, decide (mtch s (up (nobr s) (fin s p) p) < 0)) else (0, 0, true)
theorem mtU_lt {s : ByteArray} {a b : Int} : ∀ f n i, mtU s a b f n i < s.size ∧ -1 ≤ mtU s a b f n i := by
 intro f
 induction f with
 | zero => intro n i; simp only [mtU]; omega
 | succ f ih =>
  intro n i; simp only [mtU]; split
  ·split
   ·omega
   ·exact ih _ _
  ·omega
theorem mtD_lt {s : ByteArray} {a b : Int} : ∀ j n, mtD s a b n j < j ∧ -1 ≤ mtD s a b n j := by
 intro j
 induction j with
 | zero => intro n; simp only [mtD]; omega
 | succ j ih =>
  intro n; simp only [mtD]; split
  ·omega
  ·have := ih (dep s a b n j); omega
theorem mtch_lt {s : ByteArray} {p : Nat} (h : p < s.size) : mtch s p < s.size ∧ -1 ≤ mtch s p := by
 unfold mtch; split
 ·exact mtU_lt _ _ _
 ·have := mtD_lt (s := s) (a := bt s p) (b := prt (bt s p)) (p + 1) 0; omega
def wayH (s : ByteArray) (p n : Nat) : Int × Int × Bool := (if (p : Int) - n < beg s p then (beg s p : Int) else (p : Int) - n, 0, (p : Int) == (beg s p : Int))
def mostL (s : ByteArray) (p : Nat) (v : Bool) : Nat := if v = true then fin s p else lst s p
def wayL (s : ByteArray) (p n : Nat) (v : Bool) : Int × Int × Bool :=
 (if (mostL s p v : Int) < (p : Int) + n then (mostL s p v : Int) else (p : Int) + n, 0, decide ((if (mostL s p v : Int) < (p : Int) + n then (mostL s p v : Int) else (p : Int) + n) ≤ (p : Int)))
def wayEol (s : ByteArray) (p n : Nat) : Int × Int × Bool :=
 if (lns s : Int) ≤ (lin s p : Int) + n - 1 then (0, 0, true)
 else ((lst s (att s (lin s p + n - 1)) : Int), if emp s (lst s (att s (lin s p + n - 1))) = true then 0 else 1, false)
def wayB (s : ByteArray) (p n : Nat) (g : Bool) : Int × Int × Bool := ((itr (bstep s g) n p : Int), 0, (p : Int) == 0)
def goWay (s : ByteArray) (p : Nat) (key c : Int) (n : Nat) (given v b : Bool) : Int × Int × Bool :=
 if key = 104 then wayH s p n else if key = 108 then wayL s p n v
 else if key = 48 then ((beg s p : Int), 0, false) else if key = 94 then ((frs s p : Int), 0, false)
 else if key = 36 then wayEol s p n
 else if key = 106 ∨ key = 107 ∨ key = 71 ∨ key = 103 then lineWay s p key n given
 else if key = 119 ∨ key = 87 then ((wordQ s p n (key == 87) v : Int), 0, (wordQ s p n (key == 87) v : Int) == (p : Int))
 else if key = 98 ∨ key = 66 then wayB s p n (key == 66)
 else if key = 101 ∨ key = 69 then endWay s (key == 69) n p
 else if key = 102 ∨ key = 116 ∨ key = 70 ∨ key = 84 then byteWay s p key c n (frm key b)
 else if key = 125 ∨ key = 123 then ((parQ s p n (key == 125) v : Int), 0, (parQ s p n (key == 125) v : Int) == (p : Int))
 else pairWay s p
theorem lst_in {s : ByteArray} {p : Nat} (h : p ≤ s.size) : beg s p ≤ lst s p ∧ lst s p ≤ fin s p := by
 have := fin_ge s p; have := beg_le s p
 unfold lst; split <;> omega
theorem bt_cut {s : ByteArray} {a b i : Nat} (hb : b ≤ s.size) (h : a + i < b) : bt (s.extract a b) i = bt s (a + i) := by
 have h1 : i < (s.extract a b).size := by rw [ByteArray.size_extract]; omega
 rw [bt_in h1, bt_in qo, ByteArray.getElem_extract]
theorem first_up (s : ByteArray) (c : Int) (h0 : 0 ≤ c) (h1 : c < 256) :
  Go.firstIdx s c.toNat.toUInt8 = if up (fun i => bt s i != c) s.size 0 < s.size then ((up (fun i => bt s i != c) s.size 0 : Nat) : Int) else -1 := by
 have hq : ∀ i, i < s.size → ((s[i]! == c.toNat.toUInt8) = (bt s i == c)) := by
  intro i hi
  rw [getElem!_pos s i hi, bt_in hi, Bool.eq_iff_iff]
  simp only [beq_iff_eq]
  constructor
  ·intro h
   rw [h]
   simp only [Nat.toUInt8, UInt8.ofNat, UInt8.toNat, BitVec.toNat_ofNat]
   omega
  ·intro h
   apply UInt8.toNat_inj.1
   simp only [Nat.toUInt8, UInt8.ofNat, UInt8.toNat, BitVec.toNat_ofNat]
   simp only [UInt8.toNat] at h
   omega
 unfold Go.firstIdx
 cases hf : (List.range s.size).find? (fun i => s[i]! == c.toNat.toUInt8) with
 | none =>
  rw [List.find?_range_eq_none] at hf
  have hu : up (fun i => bt s i != c) s.size 0 = s.size := up_eq (Nat.zero_le _) (Nat.le_refl _) (fun i _ hi => by have := hf i hi; rw [hq i hi] at this; simpa using this) (fun h => absurd h (Nat.lt_irrefl _))
  rw [hu, if_neg (Nat.lt_irrefl _)]
 | some k =>
  rw [List.find?_range_eq_some] at hf
  obtain ⟨hk, hm, hl⟩ := hf
  have hm' : k < s.size := List.mem_range.1 hm
  have hu : up (fun i => bt s i != c) s.size 0 = k := up_eq (Nat.zero_le _) (Nat.le_of_lt hm') (fun i _ hi => by have := hl i hi; rw [hq i qo] at this; simpa using this) (fun _ => by rw [hq k hm'] at hk; simpa using hk)
  rw [hu, if_pos hm']
theorem dn_cut {s : ByteArray} {p : Nat} (h : p ≤ s.size) : dn (fun i => bt (s.extract 0 p) i != 10) p = beg s p := by
 refine dn_eq (beg_le s p) (fun i h1 h2 => ?_) (fun h1 => ?_)
 ·rw [bt_cut h qo]
  have := beg_no h1 h2
  simp only [nl, beq_eq_false_iff_ne] at this
  simpa using this
 ·have hb := beg_le s p
  rw [bt_cut h qo]
  have := beg_nl h1
  simp only [nl, beq_iff_eq] at this
  simpa using this
theorem up_cut {s : ByteArray} {p : Nat} (h : p ≤ s.size) : up (fun i => bt (s.extract p s.size) i != 10) (s.size - p) 0 = fin s p - p := by
 have hg := fin_ge s p
 have hl := fin_le h
 refine up_eq (Nat.zero_le _) qo (fun i _ h2 => ?_) (fun h1 => ?_)
 ·rw [bt_cut (Nat.le_refl _) qo]
  have := fin_no (s := s) (p := p) (i := p + i) qo qo
  simp only [nl, beq_eq_false_iff_ne] at this
  simpa using this
 ·rw [bt_cut (Nat.le_refl _) qo, show p + (fin s p - p) = fin s p by omega]
  have := fin_nl (s := s) (p := p) qo
  simp only [nl, beq_iff_eq] at this
  simpa using this
def sta (s : ByteArray) (x : Nat) : Prop := x = 0 ∨ (0 < x ∧ nl s (x - 1) = true)
theorem sta_inj {s : ByteArray} {x y : Nat} (hx : sta s x) (hy : sta s y) (h : lin s x = lin s y) : x = y := by
 have key : ∀ a b : Nat, sta s b → lin s a = lin s b → ¬ a < b := by
  intro a b hb h hl
  rcases hb with hb | ⟨hb, hn⟩
  ·omega
  ·obtain ⟨k, rfl⟩ : ∃ k, b = k + 1 := ⟨b - 1, by omega⟩
   have h1 := lin_mono (s := s) (a := a) (b := k) qo
   have h2 : lin s (k + 1) = lin s k + 1 := by simp only [lin]; rw [if_pos (by simpa using hn)]
   omega
 have h1 := key x y hy h
 have h2 := key y x hx h.symm
 omega
theorem sta_beg (s : ByteArray) (p : Nat) : sta s (beg s p) := by
 by_cases h : beg s p = 0
 ·exact Or.inl h
 ·exact Or.inr ⟨by omega, beg_nl qo⟩
theorem fin_lt_of {s : ByteArray} {m : Nat} (h : m + 1 < lns s) : fin s (att s m) < s.size := by
 have h1 := (att_in (s := s) (m := m + 1) h).1
 simp only [att] at h1; omega
theorem fin_last {s : ByteArray} {m : Nat} (h : m + 1 = lns s) : fin s (att s m) = s.size := by
 have h1 := att_in (s := s) (m := m) qo
 have h2 := fin_le (s := s) (p := att s m) h1.1
 by_cases h3 : fin s (att s m) < s.size
 ·have h4 := fin_nl h3
  have h5 : lin s (fin s (att s m) + 1) = lin s (fin s (att s m)) + 1 := by simp only [lin]; rw [if_pos h4]
  have h6 := lin_mono (s := s) (a := fin s (att s m) + 1) (b := s.size) qo
  rw [lin_fin] at h5
  unfold lns at h; omega
 ·omega
theorem sta_att {s : ByteArray} {m : Nat} (h : m < lns s) : sta s (att s m) := by
 cases m with
 | zero => exact Or.inl rfl
 | succ m => exact Or.inr ⟨by simp only [att]; omega, by simp only [att, Nat.add_sub_cancel]; exact fin_nl (fin_lt_of h)⟩
theorem beg_att {s : ByteArray} {m : Nat} (h : m < lns s) : beg s (att s m) = att s m :=
 sta_inj (sta_beg s _) (sta_att h) (lin_beg s _)
theorem beg_eq {s : ByteArray} {p : Nat} (h : p ≤ s.size) : beg s p = att s (lin s p) :=
 sta_inj (sta_beg s _) (sta_att (lin_lt h)) (by rw [lin_beg, (att_in (lin_lt h)).2])
theorem fin_beg (s : ByteArray) (p : Nat) (h : p ≤ s.size) : fin s (beg s p) = fin s p := by
 have hb := beg_le s p
 have hg := fin_ge s p
 refine up_eq qo (fin_le h) (fun i h1 h2 => ?_) (fun h1 => ?_)
 ·by_cases hi : i < p
  ·simp [beg_no h1 hi]
  ·simp [fin_no (s := s) (p := p) (i := i) qo h2]
 ·simp [fin_nl h1]
theorem fin_eq {s : ByteArray} {p : Nat} (h : p ≤ s.size) : fin s p = fin s (att s (lin s p)) := by rw [← beg_eq h, fin_beg s p h]
theorem line_up {s : ByteArray} {m : Nat} (h : m < lns s) (h0 : 0 < m) : beg s (att s m - 1) = att s (m - 1) ∧ fin s (att s m - 1) = fin s (att s (m - 1)) := by
 obtain ⟨k, rfl⟩ : ∃ k, m = k + 1 := ⟨m - 1, by omega⟩
 have hf := fin_lt_of h
 simp only [att, Nat.add_sub_cancel]
 have hl : lin s (fin s (att s k)) = k := by rw [lin_fin]; exact (att_in qo).2
 constructor
 ·rw [beg_eq qo, hl]
 ·rw [fin_eq qo, hl]
theorem line_down {s : ByteArray} {m : Nat} (h : m + 1 < lns s) : beg s (fin s (att s m) + 1) = att s (m + 1) ∧ fin s (fin s (att s m) + 1) = fin s (att s (m + 1)) := by
 have : fin s (att s m) + 1 = att s (m + 1) := rfl
 rw [this]
 exact ⟨beg_att h, rfl⟩
theorem att_pos {s : ByteArray} {m : Nat} (h0 : 0 < m) : 0 < att s m := by
 cases m with
 | zero => omega
 | succ m => simp only [att]; omega
theorem lst_max (s : ByteArray) (p : Nat) : ((lst s p : Nat) : Int) = max ((beg s p : Nat) : Int) (((fin s p : Nat) : Int) - 1) := by
 unfold lst; split <;> omega
def ind (s : ByteArray) (p : Nat) : Nat := up (fun i => blk (bt s i)) (fin s p) (beg s p)
theorem frs_min (s : ByteArray) (p : Nat) (h : p ≤ s.size) : ((frs s p : Nat) : Int) = min ((ind s p : Nat) : Int) ((lst s p : Nat) : Int) := by
 have h1 := beg_le s p
 have h2 := fin_ge s p
 have h3 : ind s p ≤ fin s p := up_le qo
 have h4 : beg s p ≤ ind s p := up_ge _ _ _
 unfold frs
 unfold ind at *
 split
 ·rename_i h5
  unfold lst; split <;> omega
 ·unfold lst; split <;> omega
def runB (s : ByteArray) (p : Nat) (g : Bool) : Nat := dn (like s p g) p
theorem runB_le (s : ByteArray) (p : Nat) (g : Bool) : runB s p g ≤ p := dn_le _ _
theorem wrun_le {s : ByteArray} {p : Nat} {g : Bool} (h : p ≤ s.size) : wrun s p g ≤ s.size := up_le h
theorem wrun_ge (s : ByteArray) (p : Nat) (g : Bool) : p ≤ wrun s p g := up_ge _ _ _
theorem lst_line {s : ByteArray} {m : Nat} (h : m < lns s) : lst s (att s m) = if att s m < fin s (att s m) then fin s (att s m) - 1 else att s m := by
 unfold lst; rw [beg_att h]
theorem lin_lst {s : ByteArray} {m : Nat} (h : m < lns s) : lin s (lst s (att s m)) = m := by
 have h1 := att_in h
 have h2 := fin_le h1.1
 rw [lst_line h]
 split
 ·rename_i h3
  have h4 : lin s (fin s (att s m) - 1) = lin s (att s m) := lin_flat qo (fun i h1 h2 => fin_no h1 qo)
  rw [h4, h1.2]
 ·exact h1.2
theorem emp_lst {s : ByteArray} {m : Nat} (h : m < lns s) : emp s (lst s (att s m)) = (((att s m : Nat) : Int) == ((fin s (att s m) : Nat) : Int)) := by
 have h1 := att_in h
 have h2 := fin_le h1.1
 have h3 := fin_ge s (att s m)
 have hl := lin_lst h
 have hle : lst s (att s m) ≤ s.size := lst_le h1.1
 unfold emp
 rw [beg_eq hle, fin_eq hle, hl, lst_line h, Bool.eq_iff_iff]
 simp only [Bool.and_eq_true, beq_iff_eq]
 split <;> omega
theorem emp_att {s : ByteArray} {m : Nat} (h : m < lns s) : emp s (att s m) = (((att s m : Nat) : Int) == ((fin s (att s m) : Nat) : Int)) := by
 unfold emp
 rw [beg_att h]
 generalize fin s (att s m) = F
 generalize att s m = A
 rw [Bool.eq_iff_iff]
 simp only [Bool.and_eq_true, beq_iff_eq, true_and]
 omega
theorem emp_no {s : ByteArray} {i : Nat} (h : i < s.size) (hn : nl s i = false) : emp s i = false := by
 have h1 : i + 1 ≤ fin s i := by
  unfold fin; rw [up_step h (by simp [hn])]; exact up_ge _ _ _
 unfold emp
 have : (fin s i == i) = false := by simp; omega
 rw [this, Bool.and_false]
theorem nl_spc {s : ByteArray} {i : Nat} (h : nl s i = true) : spc (bt s i) = true := by
 unfold nl at h
 unfold spc
 simp only [beq_iff_eq] at h
 simp [h]
theorem fin_att_no {s : ByteArray} {j i : Nat} (h1 : att s j ≤ i) (h2 : i < fin s (att s j)) : nl s i = false := fin_no h1 h2
theorem emp_fin {s : ByteArray} {j : Nat} (hj : j < lns s) (h : att s j < fin s (att s j)) : emp s (fin s (att s j)) = false := by
 have h1 := fin_le (att_in hj).1
 have hb : beg s (fin s (att s j)) = att s j := by rw [beg_eq h1, lin_fin, (att_in hj).2]
 unfold emp
 have : (beg s (fin s (att s j)) == fin s (att s j)) = false := by rw [hb]; simp; omega
 rw [this, Bool.false_and]
theorem emp_att_ne {s : ByteArray} {j : Nat} (hj : j < lns s) (h : emp s (att s j) = false) : att s j < fin s (att s j) := by
 have h3 := fin_ge s (att s j)
 rw [emp_att hj] at h
 simp at h
 omega
theorem spc_nl_f {s : ByteArray} {i : Nat} (h : spc (bt s i) = false) : nl s i = false := by
 cases hn : nl s i with
 | false => rfl
 | true => rw [nl_spc hn] at h; exact absurd h qi
theorem emp_behind {s : ByteArray} {q : Nat} (h0 : 0 < q) (hn : nl s (q - 1) = false) : emp s q = false := by
 obtain ⟨k, rfl⟩ : ∃ k, q = k + 1 := ⟨q - 1, by omega⟩
 have h1 : beg s (k + 1) ≤ k := by
  unfold beg
  simp only [Nat.add_sub_cancel] at hn
  rw [dn_step (by simp [hn])]
  exact dn_le _ _
 unfold emp
 have : (beg s (k + 1) == k + 1) = false := by simp; omega
 rw [this, Bool.false_and]
theorem wrun_nsp {s : ByteArray} {r i : Nat} {g : Bool} (h0 : spc (bt s r) = false) (h1 : r ≤ i) (h2 : i < wrun s r g) : spc (bt s i) = false := by
 have h := up_all (c := like s r g) (n := s.size) h1 h2
 unfold like at h
 simp only [beq_iff_eq] at h
 have h3 := cls_nsp (g := g) h0
 cases hs : spc (bt s i) with
 | false => rfl
 | true => have := cls_spc (g := g) hs; omega
theorem wrun_gt {s : ByteArray} {r : Nat} {g : Bool} (h : r < s.size) : r < wrun s r g := by
 have h1 : up (like s r g) s.size r = up (like s r g) s.size (r + 1) := up_step h (like_self s r g)
 have h2 : r + 1 ≤ up (like s r g) s.size (r + 1) := up_ge (like s r g) s.size (r + 1)
 have h3 : wrun s r g = up (like s r g) s.size r := rfl
 omega
theorem emp_wfrom {s : ByteArray} {r : Nat} {g : Bool} (h : wfrom s r g ≠ r) : emp s (wfrom s r g) = false := by
 unfold wfrom at *
 split at h
 ·rename_i hc
  rw [if_pos hc]
  have hg := wrun_gt (g := g) hc.1
  exact emp_behind qo (spc_nl_f (wrun_nsp (g := g) hc.2 qo qo))
 ·exact absurd rfl h
theorem wgap1 (s : ByteArray) (r i : Nat) (h : spc (bt s i) = false) : wgap s r i = false := by unfold wgap; rw [h, Bool.false_and]
theorem wgap2 (s : ByteArray) (r i : Nat) (g : Bool) (h : spc (bt s i) = true) (h2 : emp s i = false ∨ i = wfrom s r g) : wgap s r i = true := by
 unfold wgap
 rw [h, Bool.true_and]
 rcases h2 with h2 | h2
 ·rw [h2]; rfl
 ·by_cases e : i = r
  ·subst e; simp
  ·have := emp_wfrom (s := s) (r := r) (g := g) qo
   rw [h2, this]; rfl
theorem wgap3 (s : ByteArray) (r i : Nat) (g : Bool) (h : wfrom s r g < i) (h2 : emp s i = true) : wgap s r i = false := by
 have := wfrom_ge s r g
 unfold wgap
 have e : (i != r) = true := by simp; omega
 rw [h2, e]; simp
theorem lst_size (s : ByteArray) : lst s s.size = if beg s s.size < s.size then s.size - 1 else s.size := by
 have h1 : fin s s.size = s.size := Nat.le_antisymm (fin_le (Nat.le_refl _)) (fin_ge _ _)
 have h2 := beg_le s s.size
 unfold lst; rw [h1]; split
 ·rfl
 ·omega
theorem clm_word {s : ByteArray} {r : Nat} {g : Bool} (h : r ≤ s.size) : ((clm s (wstep s g r) : Nat) : Int) = if ((lst s s.size : Nat) : Int) < ((wstep s g r : Nat) : Int) then ((lst s s.size : Nat) : Int) else ((wstep s g r : Nat) : Int) := by
 have hle := wstep_le (g := g) h
 by_cases he : wstep s g r = s.size
 ·rw [he]; unfold clm; split <;> split <;> first | rfl | omega
 ·have hlt : wstep s g r < s.size := by omega
  have hg : wgap s r (wstep s g r) = false := up_end (c := wgap s r) (n := s.size) (p := wfrom s r g) hlt
  have hc : clm s (wstep s g r) = wstep s g r := by
   unfold clm
   rw [if_neg]
   generalize wstep s g r = q at *
   unfold wgap at hg
   cases hs : spc (bt s q) with
   | false =>
    have hn := spc_nl_f hs
    have h1 : q + 1 ≤ fin s q := by unfold fin; rw [up_step hlt (by simp [hn])]; exact up_ge _ _ _
    have h2 := beg_le s q
    unfold lst; split <;> omega
   | true =>
    rw [hs, Bool.true_and] at hg
    have he : emp s q = true := by
     cases hq : emp s q with
     | true => rfl
     | false => rw [hq] at hg; simp at hg
    unfold emp at he
    simp only [Bool.and_eq_true, beq_iff_eq] at he
    unfold lst; split <;> omega
  rw [hc, if_neg]
  rw [lst_size]; split <;> omega
theorem mtD_other {s : ByteArray} {a b : Int} (hab : a ≠ b) : ∀ (j : Nat) (n : Int), 0 ≤ n → (1 ≤ n ∨ (1 ≤ j ∧ bt s (j - 1) = a)) → 0 ≤ mtD s a b n j → bt s (mtD s a b n j).toNat = b := by
 intro j
 induction j with
 | zero => intro n _ _ h; simp only [mtD] at h; omega
 | succ j ih =>
  intro n hn ho h
  simp only [mtD] at h ⊢
  by_cases hA : bt s j = a
  ·have hB : bt s j ≠ b := fun e => hab (hA.symm.trans e)
   have e : dep s a b n j = n + 1 := by unfold dep; rw [if_pos hA, if_neg hB]; omega
   rw [e, if_neg qo] at h ⊢
   exact ih _ qo (Or.inl qo) h
  ·have hn1 : 1 ≤ n := by
    rcases ho with h | h
    ·exact h
    ·exact absurd h.2 hA
   by_cases hB : bt s j = b
   ·have e : dep s a b n j = n - 1 := by unfold dep; rw [if_neg hA, if_pos hB]; omega
    rw [e] at h ⊢
    by_cases h1 : n = 1
    ·rw [if_pos qo]; simpa using hB
    ·rw [if_neg qo] at h ⊢
     exact ih _ qo (Or.inl qo) h
   ·have e : dep s a b n j = n := by unfold dep; rw [if_neg hA, if_neg hB]; omega
    rw [e, if_neg qo] at h ⊢
    exact ih _ hn (Or.inl hn1) h
theorem mtU_ge {s : ByteArray} {a b : Int} : ∀ (f : Nat) (n : Int) (i : Nat), 0 ≤ mtU s a b f n i → (i : Int) ≤ mtU s a b f n i := by
 intro f
 induction f with
 | zero => intro n i h; simp only [mtU] at h; omega
 | succ f ih =>
  intro n i h
  simp only [mtU] at h ⊢
  split at h
  ·rename_i hi
   rw [if_pos hi]
   split at h
   ·rename_i hd; rw [if_pos hd]; omega
   ·rename_i hd; rw [if_neg hd]; have := ih _ _ h; omega
  ·omega
theorem mtch_gt {s : ByteArray} {p : Nat} (hp : p < s.size) (ho : opn (bt s p) = true) (h : 0 ≤ mtch s p) : (p : Int) < mtch s p := by
 unfold mtch at h ⊢
 rw [if_pos ho] at h ⊢
 have hne : bt s p ≠ prt (bt s p) := by
  unfold opn at ho
  simp only [Bool.or_eq_true, beq_iff_eq] at ho
  rcases ho with (ho | ho) | ho <;> rw [ho] <;> decide
 obtain ⟨f, hf⟩ : ∃ f, s.size - p = f + 1 := ⟨s.size - p - 1, by omega⟩
 rw [hf] at h ⊢
 simp only [mtU] at h ⊢
 have e : dep s (bt s p) (prt (bt s p)) 0 p = 1 := by unfold dep; rw [if_pos rfl, if_neg hne]; omega
 rw [if_pos hp, e, if_neg qd] at h ⊢
 have := mtU_ge _ _ _ h
 omega
