/- Joined of the texts PureN, PureO, PureR, PureS, PureT, PureU, PureP. -/
import Derived.Test.YtlendfhehhacpaaGreatP02
import Derived.Lib.DecodeN
import Derived.Laws.RangeAny
set_option linter.unusedVariables false
set_option linter.unusedSimpArgs false
set_option maxRecDepth 100000
set_option maxHeartbeats 8000000
namespace Go.Proofs.YtlendfhehhacpaaGreat.Nib
theorem emp_in {s : ByteArray} {j i : Nat} (hj : j < lns s) (h1 : att s j ≤ i) (h2 : i ≤ fin s (att s j)) (h : att s j < fin s (att s j)) : emp s i = false := by
  have hf := fin_le (att_in hj).1
  by_cases he : i = fin s (att s j)
  · rw [he]; exact emp_fin hj h
  · exact emp_no (by omega) (fin_no h1 (by omega))
theorem bgap_go {s : ByteArray} {i : Nat} (h : spc (bt s i) = true) (he : emp s i = false) : dn (bgap s) i = dn (bgap s) (i - 1) := by
  cases i with
  | zero => rfl
  | succ k => exact dn_step (by unfold bgap; rw [h, he]; rfl)
theorem bgap_ink {s : ByteArray} {i : Nat} (h : spc (bt s i) = false) : dn (bgap s) i = i := by
  cases i with
  | zero => rfl
  | succ k => exact dn_stop (by unfold bgap; rw [h]; rfl)
theorem bgap_emp {s : ByteArray} {i : Nat} (h : emp s i = true) : dn (bgap s) i = i := by
  cases i with
  | zero => rfl
  | succ k => exact dn_stop (by unfold bgap; rw [h]; simp)
theorem bstep_run {s : ByteArray} {r : Nat} {g : Bool} (h0 : 0 < r) (hr : r ≤ s.size) : bstep s g r = if bt s (bto s r) = 10 then bto s r else runB s (bto s r) g := by
  have hb := bto_le s r
  have hend : 0 < bto s r → bgap s (bto s r - 1) = false := fun h => dn_end h
  unfold bstep
  rw [if_neg (by omega)]
  generalize bto s r = B at *
  by_cases h10 : bt s B = 10
  · rw [if_pos h10]
    have : cls (bt s B) g < 2 := cls_spc (by rw [h10]; rfl)
    rw [if_pos this]
  · rw [if_neg h10]
    by_cases hc : cls (bt s B) g < 2
    · rw [if_pos hc]
      by_cases hz : B = 0
      · subst hz; rfl
      · exfalso
        have h1 := hend (by omega)
        unfold bgap at h1
        rw [show B - 1 + 1 = B by omega] at h1
        have h2 : spc (bt s B) = true := by
          cases hs : spc (bt s B) with
          | true => rfl
          | false => have := cls_nsp (g := g) hs; omega
        rw [h2, Bool.true_and] at h1
        have h3 : emp s B = true := by cases he : emp s B with
          | true => rfl
          | false => rw [he] at h1; simp at h1
        have hn : nl s B = false := by unfold nl; simp [h10]
        rw [emp_no (by omega) hn] at h3
        exact absurd h3 (by simp)
    · rw [if_neg hc]; rfl
theorem bstep_lt {s : ByteArray} {r : Nat} {g : Bool} (h : 0 < r) : bstep s g r < r := by
  have hb := bto_le s r
  unfold bstep
  rw [if_neg (by omega)]
  split
  · omega
  · have := dn_le (like s (bto s r) g) (bto s r); omega
theorem wayB_eq (s : ByteArray) (p n : Nat) (g : Bool) (hn : 1 ≤ n) : (((itr (bstep s g) n p : Nat) : Int) == (p : Int)) = ((p : Int) == 0) := by
  obtain ⟨k, rfl⟩ : ∃ k, n = k + 1 := ⟨n - 1, by omega⟩
  rw [Bool.eq_iff_iff]
  simp only [beq_iff_eq]
  by_cases hp : p = 0
  · subst hp
    have : bstep s g 0 = 0 := by unfold bstep; rw [if_pos rfl]
    rw [itr_fix this]; simp
  · have h1 := bstep_lt (s := s) (g := g) (show 0 < p by omega)
    have h2 := itr_b_le (s := s) (p := bstep s g p) (g := g) k
    rw [← itr_succ'] at h2
    constructor <;> intro h <;> omega
def isPlain (key : Int) : Bool := key == 104 || key == 108 || key == 48 || key == 94 || key == 36 || key == 106 || key == 107 || key == 71 || key == 119 || key == 87 || key == 98 || key == 66 || key == 101 || key == 69 || key == 125 || key == 123 || key == 37
def isMk (c : Int) : Bool := c == 118 || c == 86
structure Row1 (c : Int) : Prop where
  verbs : mem kVerbs c = false
  n34 : c ≠ 34
  n114 : c ≠ 114
  n18 : c ≠ 18
  n105 : c ≠ 105
  n97 : c ≠ 97
  n117 : c ≠ 117
  n85 : c ≠ 85
  other : mem kOther c = isMk c
  mark : mem kMark c = isMk c
  find : mem kFind c = isFind c
  ways : mem kWays c = (isPlain c || c == 59 || c == 44)
def Beg (keys : ByteArray) (n : Nat) (part : Int) : Prop :=
  (AllNum keys n ∧ part = 0) ∨ ∃ (ds : ByteArray) (c : UInt8), keys = ds ++ ⟨#[c]⟩ ∧ AllNum ds n ∧ part = c.toNat ∧ (isFind c.toNat = true ∨ (c.toNat : Int) = 103)
theorem Beg.num {keys : ByteArray} {n : Nat} (h : Beg keys n 0) : AllNum keys n := by
  rcases h with h | ⟨ds, c, _, h, h1, h2⟩
  · exact h.1
  · simp only [isFind, Bool.or_eq_true, beq_iff_eq] at h2; omega
section
variable {keys : ByteArray} {n : Nat} {u : UInt8} (m : Bool)
end
theorem frs_le {s : ByteArray} {p : Nat} (h : p ≤ s.size) : frs s p ≤ s.size := by
  have h1 := lst_le h
  have h2 := beg_le s p
  have h3 := fin_le h
  have h4 := fin_ge s p
  unfold frs
  first
    | (split
       · omega
       · exact up_le (by omega))
    | (have := up_le (c := fun i => blk (bt s i)) (n := fin s p) (p := beg s p) (by omega); (repeat' split) <;> omega)
theorem wayH_in {s : ByteArray} {p n : Nat} (hp : p ≤ s.size) : 0 ≤ (wayH s p n).1 ∧ (wayH s p n).1 ≤ s.size := by
  have := beg_le s p
  simp only [wayH]; split <;> omega
theorem wayL_in {s : ByteArray} {p n : Nat} (hp : p ≤ s.size) : 0 ≤ (wayL s p n false).1 ∧ (wayL s p n false).1 ≤ s.size := by
  have := lst_le hp
  simp only [wayL, mostL, Bool.false_eq_true, if_false]; split <;> omega
theorem wayEol_in {s : ByteArray} {p n : Nat} (hn : 1 ≤ n) : 0 ≤ (wayEol s p n).1 ∧ (wayEol s p n).1 ≤ s.size := by
  simp only [wayEol]; split
  · omega
  · have := lst_le (att_in (s := s) (m := lin s p + n - 1) (by omega)).1
    omega
theorem lineTo_in {s : ByteArray} {p : Nat} (m : Int) : 0 ≤ (lineTo s p m).1 ∧ (lineTo s p m).1 ≤ s.size := by
  have := beg_le s p
  simp only [lineTo]; split
  · omega
  · have := lst_le (att_in (s := s) (m := m.toNat) (by omega)).1
    simp only
    split <;> omega
theorem lineNo_in {s : ByteArray} (m : Int) : 0 ≤ (lineNo s m).1 ∧ (lineNo s m).1 ≤ s.size := by
  have h1 := lns_pos s
  have := frs_le (att_in (s := s) (m := (if (lns s : Int) ≤ m then (lns s : Int) - 1 else m).toNat) (by split <;> omega)).1
  simp only [lineNo]; omega
theorem lineWay_in {s : ByteArray} {p : Nat} (key : Int) (n : Nat) (given : Bool) : 0 ≤ (lineWay s p key n given).1 ∧ (lineWay s p key n given).1 ≤ s.size := by
  unfold lineWay
  split
  · exact lineTo_in _
  · split
    · exact lineTo_in _
    · exact lineNo_in _
theorem clm_in {s : ByteArray} {p : Nat} (h : p ≤ s.size) : clm s p ≤ s.size := Nat.le_trans (clm_le s p) h
theorem eitr_pos {s : ByteArray} {r : Int} {g : Bool} (h0 : 0 ≤ r) (n : Nat) : 0 ≤ eitr s g n r := by
  induction n with
  | zero => exact h0
  | succ n ih => simp only [eitr]; split <;> omega
theorem endWay_in {s : ByteArray} {p n : Nat} (g : Bool) (hp : p ≤ s.size) : 0 ≤ (endWay s g n p).1 ∧ (endWay s g n p).1 ≤ s.size := by
  unfold endWay; split
  · simp only; omega
  · have := eitr_lt (s := s) (r := p) (g := g) (by omega) (by omega) n
    have := eitr_pos (s := s) (r := p) (g := g) (by omega) n
    simp only; omega
theorem byteWay_in {s : ByteArray} {p n f : Nat} (key c : Int) (hp : p ≤ s.size) (hf : 1 ≤ f) : 0 ≤ (byteWay s p key c n f).1 ∧ (byteWay s p key c n f).1 ≤ s.size := by
  have h3 := fin_le hp
  have hU : ∀ d, -1 ≤ d → d ≤ 0 → 0 ≤ (resU d (fndU s c (fin s p) (fin s p - (p + f)) n (p + f))).1 ∧ (resU d (fndU s c (fin s p) (fin s p - (p + f)) n (p + f))).1 ≤ s.size := by
    intro d h1 h2
    cases hh : fndU s c (fin s p) (fin s p - (p + f)) n (p + f) with
    | none => simp only [resU]; omega
    | some q => have := fndU_lt _ _ _ _ hh; simp only [resU]; omega
  have hD : ∀ d, 0 ≤ d → d ≤ 1 → 0 ≤ (resD d (fndD s c (beg s p) n (p + 1 - f))).1 ∧ (resD d (fndD s c (beg s p) n (p + 1 - f))).1 ≤ s.size := by
    intro d h1 h2
    cases hh : fndD s c (beg s p) n (p + 1 - f) with
    | none => simp only [resD]; omega
    | some q => have := fndD_lt _ _ _ hh; simp only [resD]; omega
  unfold byteWay
  split
  · exact hU 0 (by omega) (by omega)
  · split
    · exact hU (-1) (by omega) (by omega)
    · split
      · exact hD 0 (by omega) (by omega)
      · exact hD 1 (by omega) (by omega)
theorem pairWay_in {s : ByteArray} {p : Nat} (hp : p ≤ s.size) (h : (pairWay s p).2.2 = false) : 0 ≤ (pairWay s p).1 ∧ (pairWay s p).1 ≤ s.size := by
  have h3 := fin_le hp
  revert h
  unfold pairWay
  split
  · intro h
    have := mtch_lt (s := s) (p := up (nobr s) (fin s p) p) (by omega)
    simp only [decide_eq_false_iff_not] at h
    simp only; omega
  · simp only; intro h; exact Bool.noConfusion h
theorem frm_pos (key : Int) (b : Bool) : 1 ≤ frm key b := by unfold frm; split <;> omega
theorem goWay_in {s : ByteArray} {p n : Nat} (key c : Int) (given b : Bool) (hp : p ≤ s.size) (hn : 1 ≤ n) (h : (goWay s p key c n given false b).2.2 = false) :
    0 ≤ (goWay s p key c n given false b).1 ∧ (goWay s p key c n given false b).1 ≤ s.size := by
  revert h
  unfold goWay
  (repeat' split) <;> intro h
  · exact wayH_in hp
  · exact wayL_in hp
  · have := beg_le s p; simp only; omega
  · have := frs_le hp; simp only; omega
  · exact wayEol_in hn
  · exact lineWay_in _ _ _
  · have := clm_in (itr_w_le (g := key == 87) hp n); simp only [wordQ, Bool.false_eq_true, if_false]; omega
  · have := itr_b_le (s := s) (p := p) (g := key == 66) n; simp only [wayB]; omega
  · exact endWay_in _ hp
  · exact byteWay_in _ _ hp (frm_pos _ _)
  · have := clm_in (itr_p_le (down := key == 125) hp n); simp only [parQ, Bool.false_eq_true, if_false]; omega
  · exact pairWay_in hp h
theorem beg_same {s : ByteArray} {q x : Nat} (h1 : beg s q ≤ x) (h2 : x ≤ q) : beg s x = beg s q := by
  unfold beg
  refine dn_eq h1 ?_ ?_
  · intro i hi1 hi2
    have := beg_no (s := s) (p := q) (i := i) hi1 (by omega)
    simp [this]
  · intro h
    have := beg_nl (s := s) (p := q) h
    simp only [beg] at this
    simp [this]
theorem fin_same {s : ByteArray} {q x : Nat} (hq : q ≤ s.size) (h1 : beg s q ≤ x) (h2 : x ≤ q) : fin s x = fin s q := by
  have hf := fin_ge s q
  have hl := fin_le hq
  refine up_eq (by omega) hl ?_ ?_
  · intro i hi1 hi2
    by_cases h : i < q
    · simp [beg_no (s := s) (p := q) (i := i) (by omega) h]
    · simp [fin_no (s := s) (p := q) (i := i) (by omega) hi2]
  · intro h
    simp [fin_nl h]
theorem clm_settled {s : ByteArray} {q : Nat} (hq : q ≤ s.size) : clm s q ≤ lst s (clm s q) := by
  unfold clm
  split
  · rename_i h
    have hi := lst_in hq
    have e1 := beg_same (s := s) (q := q) (x := lst s q) hi.1 (by omega)
    have e2 := fin_same (s := s) (q := q) (x := lst s q) hq hi.1 (by omega)
    have e3 : lst s (lst s q) = lst s q := by
      rw [lst, e1, e2]
      rfl
    omega
  · omega
theorem zero_settled (s : ByteArray) : 0 ≤ lst s 0 := Nat.zero_le _
def Takes (s : ByteArray) (p : Nat) (r : Int × Int × Bool) : Prop :=
  ∃ q : Nat, r.1 = q ∧ q ≤ s.size ∧ (r.2.1 = 0 ∨ (r.2.1 = 1 ∧ p < s.size ∧ q < s.size) ∨ r.2.1 = 2)
theorem Takes.out {s : ByteArray} {p : Nat} {r : Int × Int × Bool} (h : 0 ≤ r.1 ∧ r.1 ≤ s.size) (k : r.2.1 = 0 ∨ r.2.1 = 2) : Takes s p r :=
  ⟨r.1.toNat, by omega, by omega, by omega⟩
theorem wayL_t {s : ByteArray} {p n : Nat} (hp : p ≤ s.size) : 0 ≤ (wayL s p n true).1 ∧ (wayL s p n true).1 ≤ s.size := by
  have := fin_le hp
  simp only [wayL, mostL, if_true]; split <;> omega
theorem eol_takes {s : ByteArray} {p n : Nat} (hp : p ≤ s.size) (hl : p ≤ lst s p) (hn : 1 ≤ n) (h : (wayEol s p n).2.2 = false) : Takes s p (wayEol s p n) := by
  have hI := wayEol_in (s := s) (p := p) hn
  revert h hI
  unfold wayEol
  split
  · intro h; simp at h
  · rename_i hm
    intro _ hI
    have hm' : lin s p + n - 1 < lns s := by omega
    have ha := att_in hm'
    have hle := lin_lst hm'
    have hll := lst_line hm'
    have hfl := fin_le ha.1
    simp only at hI
    refine ⟨lst s (att s (lin s p + n - 1)), rfl, by omega, ?_⟩
    cases he : emp s (lst s (att s (lin s p + n - 1))) with
    | true => left; simp
    | false =>
      right; left
      have e2 := emp_lst hm'
      rw [he] at e2
      have hne : ¬ ((att s (lin s p + n - 1) : Nat) : Int) = ((fin s (att s (lin s p + n - 1)) : Nat) : Int) := by
        intro h; rw [h] at e2; simp at e2
      have hge := fin_ge s (att s (lin s p + n - 1))
      rw [if_pos (by omega)] at hll
      refine ⟨by simp, ?_, by omega⟩
      by_cases h1 : n = 1
      · subst h1
        have hq : lst s p = lst s (att s (lin s p)) := by
          have i1 := lst_max s p
          have i2 := lst_max s (att s (lin s p))
          rw [beg_att (lin_lt hp), ← fin_eq hp] at i2
          rw [beg_eq hp] at i1
          omega
        rw [Nat.add_sub_cancel] at hll hge hfl hne
        omega
      · have : ¬ lst s (att s (lin s p + n - 1)) ≤ p := by
          intro hc
          have := lin_mono (s := s) hc
          omega
        omega
theorem end_takes {s : ByteArray} {p n : Nat} (g : Bool) (hp : p ≤ s.size) (h : (endWay s g n p).2.2 = false) : Takes s p (endWay s g n p) := by
  revert h
  unfold endWay
  split
  · intro h; simp at h
  · rename_i hm
    intro _
    have h1 := estep_ge (s := s) (q := ((p : Int) + 1).toNat) (g := g) (by omega)
    have h2 := estep_lt s ((p : Int) + 1).toNat g
    have h3 : ∀ k, eitr s g k p < s.size := by
      intro k
      induction k with
      | zero => simp only [eitr]; omega
      | succ k ih => simp only [eitr]; have := estep_lt s (eitr s g k p + 1).toNat g; split <;> omega
    have h4 := h3 n
    have h5 := eitr_pos (s := s) (r := p) (g := g) (by omega) n
    exact ⟨(eitr s g n p).toNat, by simp only; omega, by omega, Or.inr (Or.inl ⟨rfl, by omega, by omega⟩)⟩
theorem byte_takes {s : ByteArray} {p n f : Nat} (key c : Int) (hp : p ≤ s.size) (hf : 1 ≤ f) (h : (byteWay s p key c n f).2.2 = false) : Takes s p (byteWay s p key c n f) := by
  have h3 := fin_le hp
  have hU : ∀ d, -1 ≤ d → d ≤ 0 → (resU d (fndU s c (fin s p) (fin s p - (p + f)) n (p + f))).2.2 = false → Takes s p (resU d (fndU s c (fin s p) (fin s p - (p + f)) n (p + f))) := by
    intro d h1 h2
    cases hh : fndU s c (fin s p) (fin s p - (p + f)) n (p + f) with
    | none => intro h; simp [resU] at h
    | some q =>
      intro _
      have := fndU_lt _ _ _ _ hh
      exact ⟨((q : Int) + d).toNat, by simp only [resU]; omega, by omega, Or.inr (Or.inl ⟨rfl, by omega, by omega⟩)⟩
  have hD : ∀ d, 0 ≤ d → d ≤ 1 → (resD d (fndD s c (beg s p) n (p + 1 - f))).2.2 = false → Takes s p (resD d (fndD s c (beg s p) n (p + 1 - f))) := by
    intro d h1 h2
    cases hh : fndD s c (beg s p) n (p + 1 - f) with
    | none => intro h; simp [resD] at h
    | some q =>
      intro _
      have := fndD_lt _ _ _ hh
      exact ⟨((q : Int) + d).toNat, by simp only [resD]; omega, by omega, Or.inl rfl⟩
  revert h
  unfold byteWay
  split
  · exact hU 0 (by omega) (by omega)
  · split
    · exact hU (-1) (by omega) (by omega)
    · split
      · exact hD 0 (by omega) (by omega)
      · exact hD 1 (by omega) (by omega)
theorem pair_takes {s : ByteArray} {p : Nat} (hp : p ≤ s.size) (h : (pairWay s p).2.2 = false) : Takes s p (pairWay s p) := by
  have h3 := fin_le hp
  have hu := up_ge (nobr s) (fin s p) p
  revert h
  unfold pairWay
  split
  · intro h
    have := mtch_lt (s := s) (p := up (nobr s) (fin s p) p) (by omega)
    simp only [decide_eq_false_iff_not] at h
    exact ⟨(mtch s (up (nobr s) (fin s p) p)).toNat, by simp only; omega, by omega, Or.inr (Or.inl ⟨rfl, by omega, by omega⟩)⟩
  · simp only; intro h; exact Bool.noConfusion h
theorem lineWay_kind {s : ByteArray} {p : Nat} (key : Int) (n : Nat) (given : Bool) : (lineWay s p key n given).2.1 = 0 ∨ (lineWay s p key n given).2.1 = 2 := by
  have h1 : ∀ m, (lineTo s p m).2.1 = 0 ∨ (lineTo s p m).2.1 = 2 := by intro m; unfold lineTo; split <;> simp
  have h2 : ∀ m, (lineNo s m).2.1 = 0 ∨ (lineNo s m).2.1 = 2 := by intro m; unfold lineNo; simp
  unfold lineWay
  split
  · exact h1 _
  · split
    · exact h1 _
    · exact h2 _
theorem goWay_takes {s : ByteArray} {p n : Nat} (key c : Int) (given b : Bool) (hp : p ≤ s.size) (hl : p ≤ lst s p) (hn : 1 ≤ n) (h : (goWay s p key c n given true b).2.2 = false) : Takes s p (goWay s p key c n given true b) := by
  revert h
  unfold goWay
  (repeat' split) <;> intro h
  · exact Takes.out (wayH_in hp) (Or.inl rfl)
  · exact Takes.out (wayL_t hp) (Or.inl rfl)
  · exact Takes.out (by have := beg_le s p; simp only; omega) (Or.inl rfl)
  · exact Takes.out (by have := frs_le hp; simp only; omega) (Or.inl rfl)
  · exact eol_takes hp hl hn h
  · exact Takes.out (lineWay_in _ _ _) (lineWay_kind _ _ _)
  · refine Takes.out ?_ (Or.inl rfl)
    have h1 := itr_w_le (g := key == 87) hp n
    have h2 := fin_le (itr_w_le (g := key == 87) hp (n - 1))
    simp only [wordQ, if_true]
    split <;> omega
  · exact Takes.out (by have := itr_b_le (s := s) (p := p) (g := key == 66) n; simp only [wayB]; omega) (Or.inl rfl)
  · exact end_takes _ hp h
  · exact byte_takes _ _ hp (frm_pos _ _) h
  · exact Takes.out (by have := itr_p_le (down := key == 125) hp n; simp only [parQ, if_true]; omega) (Or.inl rfl)
  · exact pair_takes hp h
end Go.Proofs.YtlendfhehhacpaaGreat.Nib
namespace Go.Proofs.YtlendfhehhacpaaGreat.Nib
open Go
theorem getb {s : ByteArray} {i : Nat} (h : i < s.size) : s.get! i = s[i]'h := get_at s i h
theorem dec_high {s : ByteArray} {i : Nat} (h : i < s.size) (ha : 128 ≤ (s[i]'h).toNat) :
    i + (Utf8.decode s i).2 ≤ s.size ∧ ∀ j, (hj : j < s.size) → i ≤ j → j < i + (Utf8.decode s i).2 → 128 ≤ (s[j]'hj).toNat := by
  rw [← getb h] at ha
  rw [Lib.decode_at]
  have e : ∀ j (hj : j < s.size), (s[j]'hj) = s.get! j := fun j hj => (getb hj).symm
  unfold Lib.decodeN
  repeat' split
  all_goals simp only
  all_goals refine ⟨by omega, fun j hj h1 h2 => ?_⟩
  all_goals rw [e j hj]
  all_goals first
    | omega
    | (rcases (by omega : j = i ∨ j = i + 1 ∨ j = i + 2 ∨ j = i + 3) with hq | hq | hq | hq <;> rw [hq] <;> omega)
theorem dec_valid {s : ByteArray} {i : Nat} : (Utf8.decode s i).1 ≤ 1114111 ∧ ((Utf8.decode s i).1 < 55296 ∨ 57344 ≤ (Utf8.decode s i).1) := by
  rw [Lib.decode_at]
  have h0 := (s.get! i).toNat_lt
  have h1 := (s.get! (i + 1)).toNat_lt
  unfold Lib.decodeN
  repeat' split
  all_goals simp only
  all_goals omega
theorem enc2 (r : Nat) (c1 : ¬ r < 128) (c2 : r < 2048) : (Utf8.encode (r : Int)).data.toList = [UInt8.ofNat (192 + r / 64), UInt8.ofNat (128 + r % 64)] := by
  have v : Utf8.valid (r : Int) = true := by simp [Utf8.valid]; omega
  simp [Utf8.encode, v, c1, c2]
theorem enc3 (r : Nat) (c2 : ¬ r < 2048) (c3 : r < 65536) (hv : r < 55296 ∨ 57344 ≤ r) : (Utf8.encode (r : Int)).data.toList = [UInt8.ofNat (224 + r / 4096), UInt8.ofNat (128 + r / 64 % 64), UInt8.ofNat (128 + r % 64)] := by
  have v : Utf8.valid (r : Int) = true := by simp [Utf8.valid]; omega
  have c1 : ¬ r < 128 := by omega
  simp [Utf8.encode, v, c1, c2, c3]
theorem enc4 (r : Nat) (c3 : ¬ r < 65536) (c4 : r ≤ 1114111) : (Utf8.encode (r : Int)).data.toList = [UInt8.ofNat (240 + r / 262144), UInt8.ofNat (128 + r / 4096 % 64), UInt8.ofNat (128 + r / 64 % 64), UInt8.ofNat (128 + r % 64)] := by
  have v : Utf8.valid (r : Int) = true := by simp [Utf8.valid]; omega
  have c1 : ¬ r < 128 := by omega
  have c2 : ¬ r < 2048 := by omega
  simp [Utf8.encode, v, c1, c2, c3]
theorem size_list (b : ByteArray) : b.size = b.data.toList.length := by
  show b.data.size = _
  rw [Array.length_toList]
theorem last_list {b : ByteArray} {l : List UInt8} {c : UInt8} (e : b.data.toList = l ++ [c]) (hc : 128 ≤ c.toNat) (k : Nat) (hk : k < b.size) (h1 : k + 1 = b.size) : 128 ≤ (b[k]'hk).toNat := by
  have hl := size_list b
  rw [e] at hl
  simp at hl
  have : k = l.length := by omega
  subst this
  have hg : b[l.length]'hk = b.data.toList[l.length]'(by rw [← size_list]; exact hk) := by simp [ByteArray.getElem_eq_getElem_data]
  rw [hg]
  simp [e, hc]
theorem cont_ge (n : Nat) : 128 ≤ (UInt8.ofNat (128 + n % 64)).toNat := by
  simp; omega
theorem enc_last (r : Nat) (h : 128 ≤ r) (hv : r ≤ 1114111 ∧ (r < 55296 ∨ 57344 ≤ r)) :
    ∃ l : List UInt8, ∃ c : UInt8, (Utf8.encode (r : Int)).data.toList = l ++ [c] ∧ 1 ≤ l.length ∧ l.length ≤ 3 ∧ 128 ≤ c.toNat := by
  by_cases c2 : r < 2048
  · exact ⟨[UInt8.ofNat (192 + r / 64)], UInt8.ofNat (128 + r % 64), enc2 r (by omega) c2, by simp, by simp, cont_ge r⟩
  · by_cases c3 : r < 65536
    · exact ⟨[UInt8.ofNat (224 + r / 4096), UInt8.ofNat (128 + r / 64 % 64)], UInt8.ofNat (128 + r % 64), enc3 r c2 c3 hv.2, by simp, by simp, cont_ge r⟩
    · exact ⟨[UInt8.ofNat (240 + r / 262144), UInt8.ofNat (128 + r / 4096 % 64), UInt8.ofNat (128 + r / 64 % 64)], UInt8.ofNat (128 + r % 64), enc4 r c3 hv.1, by simp, by simp, cont_ge r⟩
end Go.Proofs.YtlendfhehhacpaaGreat.Nib
