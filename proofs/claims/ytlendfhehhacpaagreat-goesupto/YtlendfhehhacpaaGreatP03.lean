/- Joined of the texts PureJ, PureK, PureL, PureM, PureN, PureO, PureP, PureT. -/
import Derived.Test.YtlendfhehhacpaaGreatP02
import Derived.Test.YtlendfhehhacpaaGreatP01
import Derived.Lib.DecodeN
import Derived.Laws.RangeAny
set_option linter.unusedVariables false
set_option linter.unusedSimpArgs false
set_option maxRecDepth 100000
set_option maxHeartbeats 8000000
namespace Go.Proofs.YtlendfhehhacpaaGreat.Nib
theorem lst_line {s : ByteArray} {m : Nat} (h : m < lns s) : lst s (att s m) = if att s m < fin s (att s m) then fin s (att s m) - 1 else att s m := by
  unfold lst; rw [beg_att h]
theorem lin_lst {s : ByteArray} {m : Nat} (h : m < lns s) : lin s (lst s (att s m)) = m := by
  have h1 := att_in h
  have h2 := fin_le h1.1
  rw [lst_line h]
  split
  · rename_i h3
    have h4 : lin s (fin s (att s m) - 1) = lin s (att s m) := lin_flat (by omega) (fun i h1 h2 => fin_no h1 (by omega))
    rw [h4, h1.2]
  · exact h1.2
theorem emp_lst {s : ByteArray} {m : Nat} (h : m < lns s) : emp s (lst s (att s m)) = (((att s m : Nat) : Int) == ((fin s (att s m) : Nat) : Int)) := by
  have h1 := att_in h
  have h2 := fin_le h1.1
  have h3 := fin_ge s (att s m)
  have hl := lin_lst h
  have hle : lst s (att s m) ≤ s.size := lst_le h1.1
  unfold emp
  rw [beg_eq hle, fin_eq hle, hl, lst_line h, Bool.eq_iff_iff]
  simp only [Bool.and_eq_true, beq_iff_eq]
  split <;> omega
theorem emp_att {s : ByteArray} {m : Nat} (h : m < lns s) : emp s (att s m) = (((att s m : Nat) : Int) == ((fin s (att s m) : Nat) : Int)) := by
  unfold emp
  rw [beg_att h]
  generalize fin s (att s m) = F
  generalize att s m = A
  rw [Bool.eq_iff_iff]
  simp only [Bool.and_eq_true, beq_iff_eq, true_and]
  omega
theorem emp_no {s : ByteArray} {i : Nat} (h : i < s.size) (hn : nl s i = false) : emp s i = false := by
  have h1 : i + 1 ≤ fin s i := by
    unfold fin; rw [up_step h (by simp [hn])]; exact up_ge _ _ _
  unfold emp
  have : (fin s i == i) = false := by simp; omega
  rw [this, Bool.and_false]
theorem nl_spc {s : ByteArray} {i : Nat} (h : nl s i = true) : spc (bt s i) = true := by
  unfold nl at h
  unfold spc
  simp only [beq_iff_eq] at h
  simp [h]
theorem fin_att_no {s : ByteArray} {j i : Nat} (h1 : att s j ≤ i) (h2 : i < fin s (att s j)) : nl s i = false := fin_no h1 h2
theorem emp_fin {s : ByteArray} {j : Nat} (hj : j < lns s) (h : att s j < fin s (att s j)) : emp s (fin s (att s j)) = false := by
  have h1 := fin_le (att_in hj).1
  have hb : beg s (fin s (att s j)) = att s j := by rw [beg_eq h1, lin_fin, (att_in hj).2]
  unfold emp
  have : (beg s (fin s (att s j)) == fin s (att s j)) = false := by rw [hb]; simp; omega
  rw [this, Bool.false_and]
theorem emp_att_ne {s : ByteArray} {j : Nat} (hj : j < lns s) (h : emp s (att s j) = false) : att s j < fin s (att s j) := by
  have h3 := fin_ge s (att s j)
  rw [emp_att hj] at h
  simp at h
  omega
theorem spc_nl_f {s : ByteArray} {i : Nat} (h : spc (bt s i) = false) : nl s i = false := by
  cases hn : nl s i with
  | false => rfl
  | true => rw [nl_spc hn] at h; exact absurd h (by simp)
theorem emp_behind {s : ByteArray} {q : Nat} (h0 : 0 < q) (hn : nl s (q - 1) = false) : emp s q = false := by
  obtain ⟨k, rfl⟩ : ∃ k, q = k + 1 := ⟨q - 1, by omega⟩
  have h1 : beg s (k + 1) ≤ k := by
    unfold beg
    simp only [Nat.add_sub_cancel] at hn
    rw [dn_step (by simp [hn])]
    exact dn_le _ _
  unfold emp
  have : (beg s (k + 1) == k + 1) = false := by simp; omega
  rw [this, Bool.false_and]
theorem wrun_nsp {s : ByteArray} {r i : Nat} {g : Bool} (h0 : spc (bt s r) = false) (h1 : r ≤ i) (h2 : i < wrun s r g) : spc (bt s i) = false := by
  have h := up_all (c := like s r g) (n := s.size) h1 h2
  unfold like at h
  simp only [beq_iff_eq] at h
  have h3 := cls_nsp (g := g) h0
  cases hs : spc (bt s i) with
  | false => rfl
  | true => have := cls_spc (g := g) hs; omega
theorem wrun_gt {s : ByteArray} {r : Nat} {g : Bool} (h : r < s.size) : r < wrun s r g := by
  have h1 : up (like s r g) s.size r = up (like s r g) s.size (r + 1) := up_step h (like_self s r g)
  have h2 : r + 1 ≤ up (like s r g) s.size (r + 1) := up_ge (like s r g) s.size (r + 1)
  have h3 : wrun s r g = up (like s r g) s.size r := rfl
  omega
theorem emp_wfrom {s : ByteArray} {r : Nat} {g : Bool} (h : wfrom s r g ≠ r) : emp s (wfrom s r g) = false := by
  unfold wfrom at *
  split at h
  · rename_i hc
    rw [if_pos hc]
    have hg := wrun_gt (g := g) hc.1
    exact emp_behind (by omega) (spc_nl_f (wrun_nsp (g := g) hc.2 (by omega) (by omega)))
  · exact absurd rfl h
theorem wgap1 (s : ByteArray) (r i : Nat) (h : spc (bt s i) = false) : wgap s r i = false := by unfold wgap; rw [h, Bool.false_and]
theorem wgap2 (s : ByteArray) (r i : Nat) (g : Bool) (h : spc (bt s i) = true) (h2 : emp s i = false ∨ i = wfrom s r g) : wgap s r i = true := by
  unfold wgap
  rw [h, Bool.true_and]
  rcases h2 with h2 | h2
  · rw [h2]; rfl
  · by_cases e : i = r
    · subst e; simp
    · have := emp_wfrom (s := s) (r := r) (g := g) (by omega)
      rw [h2, this]; rfl
theorem wgap3 (s : ByteArray) (r i : Nat) (g : Bool) (h : wfrom s r g < i) (h2 : emp s i = true) : wgap s r i = false := by
  have := wfrom_ge s r g
  unfold wgap
  have e : (i != r) = true := by simp; omega
  rw [h2, e]; simp
theorem lst_size (s : ByteArray) : lst s s.size = if beg s s.size < s.size then s.size - 1 else s.size := by
  have h1 : fin s s.size = s.size := Nat.le_antisymm (fin_le (Nat.le_refl _)) (fin_ge _ _)
  have h2 := beg_le s s.size
  unfold lst; rw [h1]; split
  · rfl
  · omega
theorem clm_word {s : ByteArray} {r : Nat} {g : Bool} (h : r ≤ s.size) : ((clm s (wstep s g r) : Nat) : Int) = if ((lst s s.size : Nat) : Int) < ((wstep s g r : Nat) : Int) then ((lst s s.size : Nat) : Int) else ((wstep s g r : Nat) : Int) := by
  have hle := wstep_le (g := g) h
  by_cases he : wstep s g r = s.size
  · rw [he]; unfold clm; split <;> split <;> first | rfl | omega
  · have hlt : wstep s g r < s.size := by omega
    have hg : wgap s r (wstep s g r) = false := up_end (c := wgap s r) (n := s.size) (p := wfrom s r g) hlt
    have hc : clm s (wstep s g r) = wstep s g r := by
      unfold clm
      rw [if_neg]
      generalize wstep s g r = q at *
      unfold wgap at hg
      cases hs : spc (bt s q) with
      | false =>
        have hn := spc_nl_f hs
        have h1 : q + 1 ≤ fin s q := by unfold fin; rw [up_step hlt (by simp [hn])]; exact up_ge _ _ _
        have h2 := beg_le s q
        unfold lst; split <;> omega
      | true =>
        rw [hs, Bool.true_and] at hg
        have he : emp s q = true := by
          cases hq : emp s q with
          | true => rfl
          | false => rw [hq] at hg; simp at hg
        unfold emp at he
        simp only [Bool.and_eq_true, beq_iff_eq] at he
        unfold lst; split <;> omega
    rw [hc, if_neg]
    rw [lst_size]; split <;> omega
def wes (s : ByteArray) (g : Bool) (r : Nat) : Nat := if estep s g (r + 1) < 0 then r else (estep s g (r + 1)).toNat
theorem wes_ge (s : ByteArray) (g : Bool) (r : Nat) : r ≤ wes s g r := by
  unfold wes
  split
  · exact Nat.le_refl _
  · rename_i h
    have := estep_ge (s := s) (q := r + 1) (g := g) (by omega)
    omega
theorem wes_gt {s : ByteArray} {g : Bool} {r : Nat} (h : ¬ estep s g (r + 1) < 0) : r < wes s g r := by
  unfold wes
  rw [if_neg h]
  have := estep_ge (s := s) (q := r + 1) (g := g) (by omega)
  omega
theorem wes_le {s : ByteArray} {g : Bool} {r : Nat} (h : r ≤ s.size) : wes s g r ≤ s.size := by
  unfold wes
  split
  · exact h
  · have := estep_lt s (r + 1) g; omega
theorem itr_wes_ge (s : ByteArray) (g : Bool) (r n : Nat) : r ≤ itr (wes s g) n r := by
  induction n with
  | zero => exact Nat.le_refl _
  | succ n ih => exact Nat.le_trans ih (wes_ge s g _)
theorem itr_wes_le {s : ByteArray} {g : Bool} {r : Nat} (h : r ≤ s.size) (n : Nat) : itr (wes s g) n r ≤ s.size := by
  induction n with
  | zero => exact h
  | succ n ih => exact wes_le ih
theorem itr_succ' (f : Nat → Nat) (n r : Nat) : itr f (n + 1) r = itr f n (f r) := by
  induction n with
  | zero => rfl
  | succ n ih =>
    show f (itr f (n + 1) r) = f (itr f n (f r))
    rw [ih]
theorem itr_fix {f : Nat → Nat} {r : Nat} (h : f r = r) (n : Nat) : itr f n r = r := by
  induction n with
  | zero => rfl
  | succ n ih => show f (itr f n r) = r; rw [ih, h]
theorem eitr_itr (s : ByteArray) (g : Bool) (r n : Nat) : eitr s g n (r : Int) = ((itr (wes s g) n r : Nat) : Int) := by
  induction n with
  | zero => rfl
  | succ n ih =>
    show (if estep s g (eitr s g n r + 1).toNat < 0 then eitr s g n r else estep s g (eitr s g n r + 1).toNat) = ((wes s g (itr (wes s g) n r) : Nat) : Int)
    rw [ih]
    have e : (((itr (wes s g) n r : Nat) : Int) + 1).toNat = itr (wes s g) n r + 1 := by omega
    rw [e]
    unfold wes
    split
    · rfl
    · omega
theorem endWay_itr (s : ByteArray) (g : Bool) (p n : Nat) (hn : 1 ≤ n) : (endWay s g n p).2.2 = (((itr (wes s g) n p : Nat) : Int) == (p : Int)) ∧ ((endWay s g n p).2.2 = false → (endWay s g n p).1 = ((itr (wes s g) n p : Nat) : Int) ∧ (endWay s g n p).2.1 = 1) := by
  have e : ((p : Int) + 1).toNat = p + 1 := by omega
  obtain ⟨k, rfl⟩ : ∃ k, n = k + 1 := ⟨n - 1, by omega⟩
  unfold endWay
  rw [e]
  by_cases h : estep s g (p + 1) < 0
  · rw [if_pos h]
    have h1 : wes s g p = p := by unfold wes; rw [if_pos h]
    rw [itr_fix h1]
    simp
  · rw [if_neg h]
    have h1 := wes_gt h
    have h2 := itr_wes_ge s g (wes s g p) k
    rw [← itr_succ'] at h2
    rw [eitr_itr]
    refine ⟨?_, fun _ => ⟨rfl, rfl⟩⟩
    have : (((itr (wes s g) (k + 1) p : Nat) : Int) == (p : Int)) = false := by simp; omega
    rw [this]
theorem wes_eq {s : ByteArray} {g : Bool} {r : Nat} (h : r < s.size) : wes s g r = if up (sp s) s.size (r + 1) = s.size then r else wrun s (up (sp s) s.size (r + 1)) g - 1 := by
  have hle : up (sp s) s.size (r + 1) ≤ s.size := up_le (by omega)
  unfold wes estep
  by_cases hq : up (sp s) s.size (r + 1) < s.size
  · rw [if_pos hq, if_neg (by omega : ¬ up (sp s) s.size (r + 1) = s.size)]
    generalize up (sp s) s.size (r + 1) = q at *
    have h1 : wrun s q g = up (like s q g) s.size (q + 1) := up_step hq (like_self s q g)
    have h2 : q + 1 ≤ up (like s q g) s.size (q + 1) := up_ge (like s q g) s.size (q + 1)
    rw [h1, if_neg (by omega)]
    omega
  · rw [if_neg hq, if_pos (by omega), if_pos (by omega)]
theorem wes_end {s : ByteArray} {g : Bool} : wes s g s.size = s.size := by
  unfold wes estep
  have h1 : s.size + 1 ≤ up (sp s) s.size (s.size + 1) := up_ge _ _ _
  have h2 : ¬ up (sp s) s.size (s.size + 1) < s.size := by omega
  simp [h2]
theorem emp_in {s : ByteArray} {j i : Nat} (hj : j < lns s) (h1 : att s j ≤ i) (h2 : i ≤ fin s (att s j)) (h : att s j < fin s (att s j)) : emp s i = false := by
  have hf := fin_le (att_in hj).1
  by_cases he : i = fin s (att s j)
  · rw [he]; exact emp_fin hj h
  · exact emp_no (by omega) (fin_no h1 (by omega))
theorem bgap_go {s : ByteArray} {i : Nat} (h : spc (bt s i) = true) (he : emp s i = false) : dn (bgap s) i = dn (bgap s) (i - 1) := by
  cases i with
  | zero => rfl
  | succ k => exact dn_step (by unfold bgap; rw [h, he]; rfl)
theorem bgap_ink {s : ByteArray} {i : Nat} (h : spc (bt s i) = false) : dn (bgap s) i = i := by
  cases i with
  | zero => rfl
  | succ k => exact dn_stop (by unfold bgap; rw [h]; rfl)
theorem bgap_emp {s : ByteArray} {i : Nat} (h : emp s i = true) : dn (bgap s) i = i := by
  cases i with
  | zero => rfl
  | succ k => exact dn_stop (by unfold bgap; rw [h]; simp)
theorem bstep_run {s : ByteArray} {r : Nat} {g : Bool} (h0 : 0 < r) (hr : r ≤ s.size) : bstep s g r = if bt s (bto s r) = 10 then bto s r else runB s (bto s r) g := by
  have hb := bto_le s r
  have hend : 0 < bto s r → bgap s (bto s r - 1) = false := fun h => dn_end h
  unfold bstep
  rw [if_neg (by omega)]
  generalize bto s r = B at *
  by_cases h10 : bt s B = 10
  · rw [if_pos h10]
    have : cls (bt s B) g < 2 := cls_spc (by rw [h10]; rfl)
    rw [if_pos this]
  · rw [if_neg h10]
    by_cases hc : cls (bt s B) g < 2
    · rw [if_pos hc]
      by_cases hz : B = 0
      · subst hz; rfl
      · exfalso
        have h1 := hend (by omega)
        unfold bgap at h1
        rw [show B - 1 + 1 = B by omega] at h1
        have h2 : spc (bt s B) = true := by
          cases hs : spc (bt s B) with
          | true => rfl
          | false => have := cls_nsp (g := g) hs; omega
        rw [h2, Bool.true_and] at h1
        have h3 : emp s B = true := by cases he : emp s B with
          | true => rfl
          | false => rw [he] at h1; simp at h1
        have hn : nl s B = false := by unfold nl; simp [h10]
        rw [emp_no (by omega) hn] at h3
        exact absurd h3 (by simp)
    · rw [if_neg hc]; rfl
theorem bstep_lt {s : ByteArray} {r : Nat} {g : Bool} (h : 0 < r) : bstep s g r < r := by
  have hb := bto_le s r
  unfold bstep
  rw [if_neg (by omega)]
  split
  · omega
  · have := dn_le (like s (bto s r) g) (bto s r); omega
theorem wayB_eq (s : ByteArray) (p n : Nat) (g : Bool) (hn : 1 ≤ n) : (((itr (bstep s g) n p : Nat) : Int) == (p : Int)) = ((p : Int) == 0) := by
  obtain ⟨k, rfl⟩ : ∃ k, n = k + 1 := ⟨n - 1, by omega⟩
  rw [Bool.eq_iff_iff]
  simp only [beq_iff_eq]
  by_cases hp : p = 0
  · subst hp
    have : bstep s g 0 = 0 := by unfold bstep; rw [if_pos rfl]
    rw [itr_fix this]; simp
  · have h1 := bstep_lt (s := s) (g := g) (show 0 < p by omega)
    have h2 := itr_b_le (s := s) (p := bstep s g p) (g := g) k
    rw [← itr_succ'] at h2
    constructor <;> intro h <;> omega
end Go.Proofs.YtlendfhehhacpaaGreat.Nib
namespace Go.Proofs.YtlendfhehhacpaaGreat.Nib
open Go
theorem getb {s : ByteArray} {i : Nat} (h : i < s.size) : s.get! i = s[i]'h := get_at s i h
theorem dec_high {s : ByteArray} {i : Nat} (h : i < s.size) (ha : 128 ≤ (s[i]'h).toNat) :
    i + (Utf8.decode s i).2 ≤ s.size ∧ ∀ j, (hj : j < s.size) → i ≤ j → j < i + (Utf8.decode s i).2 → 128 ≤ (s[j]'hj).toNat := by
  rw [← getb h] at ha
  rw [Lib.decode_at]
  have e : ∀ j (hj : j < s.size), (s[j]'hj) = s.get! j := fun j hj => (getb hj).symm
  unfold Lib.decodeN
  repeat' split
  all_goals simp only
  all_goals refine ⟨by omega, fun j hj h1 h2 => ?_⟩
  all_goals rw [e j hj]
  all_goals first
    | omega
    | (rcases (by omega : j = i ∨ j = i + 1 ∨ j = i + 2 ∨ j = i + 3) with hq | hq | hq | hq <;> rw [hq] <;> omega)
theorem dec_valid {s : ByteArray} {i : Nat} : (Utf8.decode s i).1 ≤ 1114111 ∧ ((Utf8.decode s i).1 < 55296 ∨ 57344 ≤ (Utf8.decode s i).1) := by
  rw [Lib.decode_at]
  have h0 := (s.get! i).toNat_lt
  have h1 := (s.get! (i + 1)).toNat_lt
  unfold Lib.decodeN
  repeat' split
  all_goals simp only
  all_goals omega
theorem enc2 (r : Nat) (c1 : ¬ r < 128) (c2 : r < 2048) : (Utf8.encode (r : Int)).data.toList = [UInt8.ofNat (192 + r / 64), UInt8.ofNat (128 + r % 64)] := by
  have v : Utf8.valid (r : Int) = true := by simp [Utf8.valid]; omega
  simp [Utf8.encode, v, c1, c2]
theorem enc3 (r : Nat) (c2 : ¬ r < 2048) (c3 : r < 65536) (hv : r < 55296 ∨ 57344 ≤ r) : (Utf8.encode (r : Int)).data.toList = [UInt8.ofNat (224 + r / 4096), UInt8.ofNat (128 + r / 64 % 64), UInt8.ofNat (128 + r % 64)] := by
  have v : Utf8.valid (r : Int) = true := by simp [Utf8.valid]; omega
  have c1 : ¬ r < 128 := by omega
  simp [Utf8.encode, v, c1, c2, c3]
theorem enc4 (r : Nat) (c3 : ¬ r < 65536) (c4 : r ≤ 1114111) : (Utf8.encode (r : Int)).data.toList = [UInt8.ofNat (240 + r / 262144), UInt8.ofNat (128 + r / 4096 % 64), UInt8.ofNat (128 + r / 64 % 64), UInt8.ofNat (128 + r % 64)] := by
  have v : Utf8.valid (r : Int) = true := by simp [Utf8.valid]; omega
  have c1 : ¬ r < 128 := by omega
  have c2 : ¬ r < 2048 := by omega
  simp [Utf8.encode, v, c1, c2, c3]
theorem size_list (b : ByteArray) : b.size = b.data.toList.length := by
  show b.data.size = _
  rw [Array.length_toList]
theorem last_list {b : ByteArray} {l : List UInt8} {c : UInt8} (e : b.data.toList = l ++ [c]) (hc : 128 ≤ c.toNat) (k : Nat) (hk : k < b.size) (h1 : k + 1 = b.size) : 128 ≤ (b[k]'hk).toNat := by
  have hl := size_list b
  rw [e] at hl
  simp at hl
  have : k = l.length := by omega
  subst this
  have hg : b[l.length]'hk = b.data.toList[l.length]'(by rw [← size_list]; exact hk) := by simp [ByteArray.getElem_eq_getElem_data]
  rw [hg]
  simp [e, hc]
theorem cont_ge (n : Nat) : 128 ≤ (UInt8.ofNat (128 + n % 64)).toNat := by
  simp; omega
theorem enc_last (r : Nat) (h : 128 ≤ r) (hv : r ≤ 1114111 ∧ (r < 55296 ∨ 57344 ≤ r)) :
    ∃ l : List UInt8, ∃ c : UInt8, (Utf8.encode (r : Int)).data.toList = l ++ [c] ∧ 1 ≤ l.length ∧ l.length ≤ 3 ∧ 128 ≤ c.toNat := by
  by_cases c2 : r < 2048
  · exact ⟨[UInt8.ofNat (192 + r / 64)], UInt8.ofNat (128 + r % 64), enc2 r (by omega) c2, by simp, by simp, cont_ge r⟩
  · by_cases c3 : r < 65536
    · exact ⟨[UInt8.ofNat (224 + r / 4096), UInt8.ofNat (128 + r / 64 % 64)], UInt8.ofNat (128 + r % 64), enc3 r c2 c3 hv.2, by simp, by simp, cont_ge r⟩
    · exact ⟨[UInt8.ofNat (240 + r / 262144), UInt8.ofNat (128 + r / 4096 % 64), UInt8.ofNat (128 + r / 64 % 64)], UInt8.ofNat (128 + r % 64), enc4 r c3 hv.1, by simp, by simp, cont_ge r⟩
end Go.Proofs.YtlendfhehhacpaaGreat.Nib
namespace Go.Proofs.YtlendfhehhacpaaGreat.Nib
theorem beg_same {s : ByteArray} {q x : Nat} (h1 : beg s q ≤ x) (h2 : x ≤ q) : beg s x = beg s q := by
  unfold beg
  refine dn_eq h1 ?_ ?_
  · intro i hi1 hi2
    have := beg_no (s := s) (p := q) (i := i) hi1 (by omega)
    simp [this]
  · intro h
    have := beg_nl (s := s) (p := q) h
    simp only [beg] at this
    simp [this]
theorem fin_same {s : ByteArray} {q x : Nat} (hq : q ≤ s.size) (h1 : beg s q ≤ x) (h2 : x ≤ q) : fin s x = fin s q := by
  have hf := fin_ge s q
  have hl := fin_le hq
  refine up_eq (by omega) hl ?_ ?_
  · intro i hi1 hi2
    by_cases h : i < q
    · simp [beg_no (s := s) (p := q) (i := i) (by omega) h]
    · simp [fin_no (s := s) (p := q) (i := i) (by omega) hi2]
  · intro h
    simp [fin_nl h]
theorem clm_settled {s : ByteArray} {q : Nat} (hq : q ≤ s.size) : clm s q ≤ lst s (clm s q) := by
  unfold clm
  split
  · rename_i h
    have hi := lst_in hq
    have e1 := beg_same (s := s) (q := q) (x := lst s q) hi.1 (by omega)
    have e2 := fin_same (s := s) (q := q) (x := lst s q) hq hi.1 (by omega)
    have e3 : lst s (lst s q) = lst s q := by
      rw [lst, e1, e2]
      rfl
    omega
  · omega
end Go.Proofs.YtlendfhehhacpaaGreat.Nib
