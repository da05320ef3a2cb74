/- A part. -/
import Derived.Test.YtlendfhehhacpaaGreatU05
import Derived.Lib.DecodeN
import Derived.Laws.RangeAny
set_option linter.unusedVariables false
set_option linter.unusedSimpArgs false
set_option maxRecDepth 100000
set_option maxHeartbeats 8000000
namespace Go.Proofs.YtlendfhehhacpaaGreat.Nib
structure Cmd where
 more : Bool
 bad : Bool
 reg : Int
 n : Int
 given : Bool
 verb : Int
 twice : Bool
 object : Int
 around : Bool
 way : Int
 other : Int
 c : Int
def cMore : Cmd := ⟨true, false, 0, 0, false, 0, false, 0, false, 0, 0, 0⟩
def cBad : Cmd := ⟨false, true, 0, 0, false, 0, false, 0, false, 0, 0, 0⟩
def mem (s : ByteArray) (c : Int) : Bool := decide (up (fun i => bt s i != c) s.size 0 < s.size)
def isDig (s : ByteArray) (n a : Nat) : Bool := decide ((49 ≤ bt s a ∧ bt s a ≤ 57) ∨ (bt s a = 48 ∧ 0 < n))
def numF (s : ByteArray) : Nat → Nat → Nat → Nat × Nat
 | 0, n, a => (n, a)
 | f + 1, n, a => if a < s.size ∧ isDig s n a = true then numF s f (if 99 < n * 10 + (bt s a - 48).toNat then 99 else n * 10 + (bt s a - 48).toNat) (a + 1) else (n, a)
def num (s : ByteArray) (a : Nat) : Nat × Nat := numF s (s.size - a) 0 a
def kWays : ByteArray := ⟨#[104, 106, 107, 108, 48, 94, 36, 71, 119, 87, 98, 66, 101, 69, 59, 44, 123, 125, 37]⟩
def kFind : ByteArray := ⟨#[102, 116, 70, 84]⟩
def kObjs : ByteArray := ⟨#[119, 87, 40, 41, 91, 93, 123, 125, 34, 39, 112]⟩
def kVerbs : ByteArray := ⟨#[100, 99, 121, 60, 62]⟩
def kOther : ByteArray := ⟨#[120, 88, 68, 67, 115, 83, 89, 112, 80, 74, 126, 105, 73, 97, 65, 111, 79, 118, 86, 117, 46]⟩
def kMark : ByteArray := ⟨#[100, 120, 99, 115, 121, 60, 62, 117, 85, 111, 118, 86]⟩
def cW (x : Cmd) (c : Int) : Cmd := { x with way := c }
def cWC (x : Cmd) (c b : Int) : Cmd := { x with way := c, c := b }
def cOb (x : Cmd) (o : Int) (a : Bool) : Cmd := { x with object := o, around := a }
def cO (x : Cmd) (c : Int) : Cmd := { x with other := c }
def cOC (x : Cmd) (c b : Int) : Cmd := { x with other := c, c := b }
def cV (x : Cmd) (v : Int) : Cmd := { x with verb := v }
def cVN (x : Cmd) (v n : Int) : Cmd := { x with verb := v, n := n, given := true }
def cT (x : Cmd) : Cmd := { x with twice := true }
def rdWay (x : Cmd) (c : Int) (rest : ByteArray) : Cmd :=
 if mem kWays c = true then cW x c
 else if mem kFind c = true then (if rest.size = 0 then cMore else cWC x c (bt rest 0))
 else if c = 103 then (if rest.size = 0 then cMore else if bt rest 0 = 103 then cW x c else cBad)
 else cBad
def rdObject (x : Cmd) (c : Int) (rest : ByteArray) : Cmd :=
 if rest.size = 0 then cMore else if mem kObjs (bt rest 0) = true then cOb x (bt rest 0) (c == 97) else cBad
def rdMarked (x : Cmd) (c : Int) (rest : ByteArray) : Cmd :=
 if c = 105 ∨ c = 97 then rdObject x c rest else if mem kMark c = true then cO x c else rdWay x c rest
def rdCount (x : Cmd) (verb : Int) (k : Nat) : Cmd :=
 if 0 < k then cVN x verb (if 99 < x.n * k then 99 else x.n * k) else cV x verb
def rdVerb (x : Cmd) (verb last : Int) (rest : ByteArray) : Cmd :=
 if (num rest 0).2 = rest.size then cMore
 else if bt rest (num rest 0).2 = last then cT (rdCount x verb (num rest 0).1)
 else if bt rest (num rest 0).2 = 105 ∨ bt rest (num rest 0).2 = 97 then rdObject (rdCount x verb (num rest 0).1) (bt rest (num rest 0).2) (rest.extract ((num rest 0).2 + 1) rest.size)
 else rdWay (rdCount x verb (num rest 0).1) (bt rest (num rest 0).2) (rest.extract ((num rest 0).2 + 1) rest.size)
def slotN (c : Int) : Int := if c = 34 then 26 else if 97 ≤ c ∧ c ≤ 122 then c - 97 else -1
def cMk (reg n : Int) (given : Bool) : Cmd := ⟨false, false, reg, n, given, 0, false, 0, false, 0, 0, 0⟩
def cHead (reg : Int) (k : Nat) : Cmd := cMk reg (if 0 < k then (k : Int) else 1) (decide (0 < k))
def rdNorm (x : Cmd) (c : Int) (rest : ByteArray) : Cmd :=
 if mem kVerbs c = true then rdVerb x c c rest
 else if c = 103 ∧ 0 < rest.size ∧ (bt rest 0 = 117 ∨ bt rest 0 = 85) then rdVerb x (bt rest 0) (bt rest 0) (rest.extract 1 rest.size)
 else if c = 114 then (if rest.size = 0 then cMore else cOC x c (bt rest 0))
 else if mem kOther c = true ∨ c = 18 then cO x c
 else rdWay x c rest
def rdBody (x : Cmd) (marked : Bool) (c : Int) (rest : ByteArray) : Cmd := if marked = true then rdMarked x c rest else rdNorm x c rest
def rdFrom (s : ByteArray) (marked : Bool) (reg : Int) (a : Nat) : Cmd :=
 if (num s a).2 = s.size then cMore else rdBody (cHead reg (num s a).1) marked (bt s (num s a).2) (s.extract ((num s a).2 + 1) s.size)
def rd (s : ByteArray) (marked : Bool) : Cmd :=
 if bt s 0 = 34 then (if s.size = 1 then cMore else if slotN (bt s 1) < 0 then cBad else rdFrom s marked (slotN (bt s 1)) 2) else rdFrom s marked (-1) 0
def isFind (key : Int) : Bool := key == 102 || key == 116 || key == 70 || key == 84
def flp (key : Int) : Int := if key = 102 then 70 else if key = 70 then 102 else if key = 116 then 84 else if key = 84 then 116 else key
def isD (n : Nat) (c : Int) : Bool := decide ((49 ≤ c ∧ c ≤ 57) ∨ (c = 48 ∧ 0 < n))
def nextN (n : Nat) (c : Int) : Nat := if 99 < n * 10 + (c - 48).toNat then 99 else n * 10 + (c - 48).toNat
theorem emp_in {s : ByteArray} {j i : Nat} (hj : j < lns s) (h1 : att s j ≤ i) (h2 : i ≤ fin s (att s j)) (h : att s j < fin s (att s j)) : emp s i = false := by
 have hf := fin_le (att_in hj).1
 by_cases he : i = fin s (att s j)
 ·rw [he]; exact emp_fin hj h
 ·exact emp_no qo (fin_no h1 qo)
theorem bgap_go {s : ByteArray} {i : Nat} (h : spc (bt s i) = true) (he : emp s i = false) : dn (bgap s) i = dn (bgap s) (i - 1) := by
 cases i with
 | zero => rfl
 | succ k => exact dn_step (by unfold bgap; rw [h, he]; rfl)
theorem bgap_ink {s : ByteArray} {i : Nat} (h : spc (bt s i) = false) : dn (bgap s) i = i := by
 cases i with
 | zero => rfl
 | succ k => exact dn_stop (by unfold bgap; rw [h]; rfl)
theorem bgap_emp {s : ByteArray} {i : Nat} (h : emp s i = true) : dn (bgap s) i = i := by
 cases i with
 | zero => rfl
 | succ k => exact dn_stop (by unfold bgap; rw [h]; simp)
section
variable {keys : ByteArray} {n : Nat} {u : UInt8} (m : Bool)
end
end Go.Proofs.YtlendfhehhacpaaGreat.Nib
namespace Go.Proofs.YtlendfhehhacpaaGreat.Nib
open Go
theorem getb {s : ByteArray} {i : Nat} (h : i < s.size) : s.get! i = s[i]'h := get_at s i h
theorem dec_high {s : ByteArray} {i : Nat} (h : i < s.size) (ha : 128 ≤ (s[i]'h).toNat) :
  i + (Utf8.decode s i).2 ≤ s.size ∧ ∀ j, (hj : j < s.size) → i ≤ j → j < i + (Utf8.decode s i).2 → 128 ≤ (s[j]'hj).toNat := by
 rw [← getb h] at ha
 rw [Lib.decode_at]
 have e : ∀ j (hj : j < s.size), (s[j]'hj) = s.get! j := fun j hj => (getb hj).symm
 unfold Lib.decodeN
 repeat' split
 all_goals simp only
 all_goals refine ⟨by omega, fun j hj h1 h2 => ?_⟩
 all_goals rw [e j hj]
 all_goals first
  | omega
  | (rcases (by omega : j = i ∨ j = i + 1 ∨ j = i + 2 ∨ j = i + 3) with hq | hq | hq | hq <;> rw [hq] <;> omega)
theorem dec_valid {s : ByteArray} {i : Nat} : (Utf8.decode s i).1 ≤ 1114111 ∧ ((Utf8.decode s i).1 < 55296 ∨ 57344 ≤ (Utf8.decode s i).1) := by
 rw [Lib.decode_at]
 have h0 := (s.get! i).toNat_lt
 have h1 := (s.get! (i + 1)).toNat_lt
 unfold Lib.decodeN
 repeat' split
 all_goals simp only
 all_goals omega
theorem enc2 (r : Nat) (c1 : ¬ r < 128) (c2 : r < 2048) : (Utf8.encode (r : Int)).data.toList = [UInt8.ofNat (192 + r / 64), UInt8.ofNat (128 + r % 64)] := by
 have v : Utf8.valid (r : Int) = true := by simp [Utf8.valid]; omega
 simp [Utf8.encode, v, c1, c2]
theorem enc3 (r : Nat) (c2 : ¬ r < 2048) (c3 : r < 65536) (hv : r < 55296 ∨ 57344 ≤ r) : (Utf8.encode (r : Int)).data.toList = [UInt8.ofNat (224 + r / 4096), UInt8.ofNat (128 + r / 64 % 64), UInt8.ofNat (128 + r % 64)] := by
 have v : Utf8.valid (r : Int) = true := by simp [Utf8.valid]; omega
 have c1 : ¬ r < 128 := by omega
 simp [Utf8.encode, v, c1, c2, c3]
theorem enc4 (r : Nat) (c3 : ¬ r < 65536) (c4 : r ≤ 1114111) : (Utf8.encode (r : Int)).data.toList = [UInt8.ofNat (240 + r / 262144), UInt8.ofNat (128 + r / 4096 % 64), UInt8.ofNat (128 + r / 64 % 64), UInt8.ofNat (128 + r % 64)] := by
 have v : Utf8.valid (r : Int) = true := by simp [Utf8.valid]; omega
 have c1 : ¬ r < 128 := by omega
 have c2 : ¬ r < 2048 := by omega
 simp [Utf8.encode, v, c1, c2, c3]
theorem size_list (b : ByteArray) : b.size = b.data.toList.length := by
 show b.data.size = _
 rw [Array.length_toList]
theorem last_list {b : ByteArray} {l : List UInt8} {c : UInt8} (e : b.data.toList = l ++ [c]) (hc : 128 ≤ c.toNat) (k : Nat) (hk : k < b.size) (h1 : k + 1 = b.size) : 128 ≤ (b[k]'hk).toNat := by
 have hl := size_list b
 rw [e] at hl
 simp at hl
 have : k = l.length := by omega
 subst this
 have hg : b[l.length]'hk = b.data.toList[l.length]'(by rw [← size_list]; exact hk) := by simp [ByteArray.getElem_eq_getElem_data]
 rw [hg]
 simp [e, hc]
theorem cont_ge (n : Nat) : 128 ≤ (UInt8.ofNat (128 + n % 64)).toNat := by
 simp; omega
theorem enc_last (r : Nat) (h : 128 ≤ r) (hv : r ≤ 1114111 ∧ (r < 55296 ∨ 57344 ≤ r)) :
  ∃ l : List UInt8, ∃ c : UInt8, (Utf8.encode (r : Int)).data.toList = l ++ [c] ∧ 1 ≤ l.length ∧ l.length ≤ 3 ∧ 128 ≤ c.toNat := by
 by_cases c2 : r < 2048
 ·exact ⟨[UInt8.ofNat (192 + r / 64)], UInt8.ofNat (128 + r % 64), enc2 r (by omega) c2, by simp, by simp, cont_ge r⟩
 ·by_cases c3 : r < 65536
  ·exact ⟨[UInt8.ofNat (224 + r / 4096), UInt8.ofNat (128 + r / 64 % 64)], UInt8.ofNat (128 + r % 64), enc3 r c2 c3 hv.2, by simp, by simp, cont_ge r⟩
  ·exact ⟨[UInt8.ofNat (240 + r / 262144), UInt8.ofNat (128 + r / 4096 % 64), UInt8.ofNat (128 + r / 64 % 64)], UInt8.ofNat (128 + r % 64), enc4 r c3 hv.1, by simp, by simp, cont_ge r⟩
