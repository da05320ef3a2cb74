/- A part. -/
import Derived.Test.YtlendfhehhacpaaGreatT08
import Derived.Test.YtlendfhehhacpaaGreatT06
import Derived.Laws.IdiomStrings
import Derived.Deep.LoopGhost
set_option linter.unusedVariables false
set_option linter.unusedSimpArgs false
set_option maxRecDepth 100000
set_option maxHeartbeats 8000000
namespace Go.Proofs.YtlendfhehhacpaaGreat
open Go.RowKit Nib Tryz
theorem qt52 {P : Prop} (h : P := by
  clear hd
  go_enter func139, ntmps139
  go_wp2
  exact qV (.bool false) (by simp [results, results139, go_sem]) rfl
 ) : P := h
theorem mDigit_no (r d : Nat) (p : Pg) (key : Int) (w : World) (h : RdAt w r d p) (hv : p.verb = 0) (hd : isD p.n key = false) :
  qC 139 #[.pointer (some ⟨r, 1, none⟩), .int .u8 key] w (.bool false) := by
 obtain ⟨c0, c1, c2, c3, c4, c5, fz, lt⟩ := h.bg
 clear h
 rw [hv] at c3
 clear hv
 simp only [isD, decide_eq_false_iff_not] at hd
 have l1 : r < w.heap.size + 1 := by omega
 have l2 : r < w.heap.size + 1 + 1 := by omega
 by_cases h1 : key < 48
 ·exact qt52
 ·by_cases h2 : 57 < key
  ·exact qt52
  ·have h3 : key = 48 := by omega
   have h4 : p.n = 0 := by omega
   subst h3
   rw [h4] at c2
   exact qt52
theorem qt18 {P : Prop} (h : P := by
  go_enter func139, ntmps139
  go_wp2
  all_goals
   refine bodyPost_ret (v := .bool true) (by simp [results, results139, go_sem]) rfl ⟨rfl, ?_, ?_⟩
   ·repeat (with_reducible first | exact HS2.out | refine r_o ?_ _ | refine RdAt.alloc ?_ _ | refine RdAt.drewN ?_ _ | refine RdAt.drew ?_)
   ·repeat exact qU
 ) : P := h
theorem mDigit_yes (r d : Nat) (p : Pg) (key : Int) (w : World) (h : RdAt w r d p) (hv : p.verb = 0) (hn : p.n ≤ 99) (hd : isD p.n key = true) :
  Calls Tryz.prog 139 #[.pointer (some ⟨r, 1, none⟩), .int .u8 key] w fun e w' => e = .returned (.bool true) ∧ RdAt w' r d { p with n := nextN p.n key } ∧ Upd [r] w w' := by
 have HS := h.set_n (nextN p.n key)
 obtain ⟨c0, c1, c2, c3, c4, c5, fz, lt⟩ := h.bg
 have H := h
 clear h
 rw [hv] at c3
 clear hv
 simp only [isD, decide_eq_true_eq] at hd
 have l1 : r < w.heap.size + 1 := by omega
 have l2 : r < w.heap.size + 1 + 1 := by omega
 have h1 : ¬ key < 48 := by omega
 have h2 : ¬ 57 < key := by omega
 have hN : nextN p.n key = if 99 < p.n * 10 + (key - 48).toNat then 99 else p.n * 10 + (key - 48).toNat := rfl
 have h5 : ((key == 48) = false) ∨ ((key == 48) = true ∧ (((p.n : Nat) : Int) == 0) = false) := by
  by_cases e : key = 48
  ·right; exact ⟨by simp [e], by simp; omega⟩
  ·left; simp [e]
 by_cases h3 : 99 < (p.n : Int) * 10 + (key - 48)
 ·have HS2 : Hid (RdAt (w.setCell ⟨r, 2, none⟩ (.int .i64 99)) r d { p with n := nextN p.n key }) := by
   rw [hN, if_pos qo] at HS
   rw [hN, if_pos qo]
   exact HS
  generalize nextN p.n key = NN at *
  clear hN HS hd
  rcases h5 with h5 | ⟨h5, h6⟩
  ·exact qt18
  ·exact qt18
 ·have HS2 : Hid (RdAt (w.setCell ⟨r, 2, none⟩ (.int .i64 ((p.n : Int) * 10 + (key - 48)))) r d { p with n := nextN p.n key }) := by
   rw [hN, if_neg qo] at HS
   rw [hN, if_neg qo]
   have e : ((p.n * 10 + (key - 48).toNat : Nat) : Int) = (p.n : Int) * 10 + (key - 48) := by omega
   rw [e] at HS
   exact HS
  generalize nextN p.n key = NN at *
  clear hN HS hd
  rcases h5 with h5 | ⟨h5, h6⟩
  ·exact qt18
  ·exact qt18
def cnt (p : Pg) : Nat := if p.n = 0 ∨ p.behind = 0 then p.n + p.behind else min (p.n * p.behind) 99
theorem mCount (r d : Nat) (p : Pg) (w : World) (h : RdAt w r d p) (hn : p.n ≤ 99) (hb : p.behind ≤ 99) :
  qC 200 #[.pointer (some ⟨r, 1, none⟩)] w (.int .i64 (cnt p)) := by
 obtain ⟨c0, c1, c2, c3, c4, c5, fz, lt⟩ := h.bg
 clear h
 have HC : Hid (cnt p = if p.n = 0 ∨ p.behind = 0 then p.n + p.behind else min (p.n * p.behind) 99) := rfl
 generalize cnt p = y at *
 by_cases h1 : p.n = 0
 ·have HD : Hid ((y : Int) = (p.behind : Int)) := by rw [Hid, HC.out, if_pos (Or.inl h1)]; omega
  rw [h1] at c2
  have hw : IntKind.i64.wrap ((p.behind : Nat) : Int) = ((p.behind : Nat) : Int) := by rw [IntKind.wrap_i64]; omega
  clear HC h1
  go_enter func200, ntmps200
  go_wp2_with fail
  go_region_held3 (fun ww => ww.cell? ⟨r, 2, none⟩ = some (.int .i64 0) ∧ ww.cell? ⟨r, 4, none⟩ = some (.int .i64 (p.behind : Nat))) (exact qK) (fail)
  go_wp2
  all_goals
   exact qV (.int .i64 (p.behind : Nat)) (by simp [results, results200, go_sem]) (by rw [HD.out])
 ·by_cases h2 : p.behind = 0
  ·have HD : Hid ((y : Int) = (p.n : Int)) := by rw [Hid, HC.out, if_pos (Or.inr h2)]; omega
   have h1' : (((p.n : Nat) : Int) == 0) = false := by simp; omega
   rw [h2] at c4
   have hw : IntKind.i64.wrap ((p.n : Nat) : Int) = ((p.n : Nat) : Int) := by rw [IntKind.wrap_i64]; omega
   clear HC h1 h2
   go_enter func200, ntmps200
   go_wp2_with fail
   go_region_held3 (fun ww => ww.cell? ⟨r, 2, none⟩ = some (.int .i64 (p.n : Nat)) ∧ ww.cell? ⟨r, 4, none⟩ = some (.int .i64 0)) (exact qK) (fail)
   go_wp2
   all_goals
    exact qV (.int .i64 (p.n : Nat)) (by simp [results, results200, go_sem]) (by rw [HD.out])
  ·have hm : p.n * p.behind ≤ 99 * 99 := Nat.mul_le_mul hn hb
   have hm2 : ((p.n * p.behind : Nat) : Int) = (p.n : Int) * (p.behind : Int) := by simp
   have h1' : (((p.n : Nat) : Int) == 0) = false := by simp; omega
   have h2' : (((p.behind : Nat) : Int) == 0) = false := by simp; omega
   by_cases h3 : 99 < p.n * p.behind
   ·have HD : Hid ((y : Int) = 99) := by rw [Hid, HC.out, if_neg qo]; omega
    have h3' : 99 < (p.n : Int) * (p.behind : Int) := by omega
    have hw : IntKind.i64.wrap ((p.n : Int) * (p.behind : Int)) = (p.n : Int) * (p.behind : Int) := by rw [IntKind.wrap_i64]; omega
    clear HC h1 h2 hm hm2 h3
    go_enter func200, ntmps200
    go_wp2_with fail
    go_region_held3 (fun ww => ww.cell? ⟨r, 2, none⟩ = some (.int .i64 (p.n : Nat)) ∧ ww.cell? ⟨r, 4, none⟩ = some (.int .i64 (p.behind : Nat))) (exact qK) (fail)
    go_wp2
    all_goals
     exact qV (.int .i64 99) (by simp [results, results200, go_sem]) (by rw [HD.out])
   ·have HD : Hid ((y : Int) = (p.n : Int) * (p.behind : Int)) := by rw [Hid, HC.out, if_neg qo]; omega
    have h3' : ¬ 99 < (p.n : Int) * (p.behind : Int) := by omega
    have hw : IntKind.i64.wrap ((p.n : Int) * (p.behind : Int)) = (p.n : Int) * (p.behind : Int) := by rw [IntKind.wrap_i64]; omega
    clear HC h1 h2 hm hm2 h3
    go_enter func200, ntmps200
    go_wp2_with fail
    go_region_held3 (fun ww => ww.cell? ⟨r, 2, none⟩ = some (.int .i64 (p.n : Nat)) ∧ ww.cell? ⟨r, 4, none⟩ = some (.int .i64 (p.behind : Nat))) (exact qK) (fail)
    go_wp2
    all_goals
     exact qV (.int .i64 ((p.n : Int) * (p.behind : Int))) (by simp [results, results200, go_sem]) (by rw [HD.out])
def smallU (c : UInt8) : UInt8 := if 65 ≤ c.toNat ∧ c.toNat ≤ 90 then (c.toNat + 32).toUInt8 else c
def greatU (c : UInt8) : UInt8 := if 97 ≤ c.toNat ∧ c.toNat ≤ 122 then (c.toNat - 32).toUInt8 else c
def turnU (c : UInt8) : UInt8 := if smallU c = c then greatU c else smallU c
theorem smallU_nat (c : UInt8) : ((smallU c).toNat : Int) = if 65 ≤ (c.toNat : Int) ∧ (c.toNat : Int) ≤ 90 then (c.toNat : Int) + 32 else c.toNat := by
 unfold smallU
 by_cases h : 65 ≤ c.toNat ∧ c.toNat ≤ 90
 ·rw [if_pos h, if_pos qo, Nat.toUInt8_eq, UInt8.toNat_ofNat']
  omega
 ·rw [if_neg h, if_neg qo]
theorem greatU_nat (c : UInt8) : ((greatU c).toNat : Int) = if 97 ≤ (c.toNat : Int) ∧ (c.toNat : Int) ≤ 122 then (c.toNat : Int) - 32 else c.toNat := by
 unfold greatU
 by_cases h : 97 ≤ c.toNat ∧ c.toNat ≤ 122
 ·rw [if_pos h, if_pos qo, Nat.toUInt8_eq, UInt8.toNat_ofNat']
  omega
 ·rw [if_neg h, if_neg qo]
theorem tSmall (c : UInt8) (w : World) :
  Calls Tryz.prog 220 #[.int .u8 c.toNat] w fun e w' => e = .returned (.int .u8 (smallU c).toNat) ∧ w' = w := by
 have hc := c.toNat_lt
 have hx := smallU_nat c
 generalize ((smallU c).toNat : Int) = X at *
 generalize hn : (c.toNat : Int) = n at *
 by_cases h1 : 65 ≤ n
 ·by_cases h2 : n ≤ 90
  ·rw [if_pos ⟨h1, h2⟩] at hx
   have w1 : IntKind.u8.wrap (n - 65) = n - 65 := by rw [IntKind.wrap_u8]; omega
   have w2 : IntKind.u8.wrap (n - 65 + 97) = n - 65 + 97 := by rw [IntKind.wrap_u8]; omega
   subst hx
   go_enter func220, ntmps220
   go_wp2
   go_ret
   exact ⟨by show Ending.returned (Value.int IntKind.u8 (n - 65 + 97)) = _; rw [show n - 65 + 97 = n + 32 by omega], rfl⟩
  ·rw [if_neg qo] at hx
   subst hx
   go_enter func220, ntmps220
   go_wp2
   go_ret
   exact ⟨rfl, rfl⟩
 ·rw [if_neg qo] at hx
  subst hx
  go_enter func220, ntmps220
  go_wp2
  go_ret
  exact ⟨rfl, rfl⟩
theorem tGreat (c : UInt8) (w : World) :
  Calls Tryz.prog 222 #[.int .u8 c.toNat] w fun e w' => e = .returned (.int .u8 (greatU c).toNat) ∧ w' = w := by
 have hc := c.toNat_lt
 have hx := greatU_nat c
 generalize ((greatU c).toNat : Int) = X at *
 generalize hn : (c.toNat : Int) = n at *
 by_cases h1 : 97 ≤ n
 ·by_cases h2 : n ≤ 122
  ·rw [if_pos ⟨h1, h2⟩] at hx
   have w1 : IntKind.u8.wrap (n - 97) = n - 97 := by rw [IntKind.wrap_u8]; omega
   have w2 : IntKind.u8.wrap (n - 97 + 65) = n - 97 + 65 := by rw [IntKind.wrap_u8]; omega
   subst hx
   go_enter func222, ntmps222
   go_wp2
   go_ret
   exact ⟨by show Ending.returned (Value.int IntKind.u8 (n - 97 + 65)) = _; rw [show n - 97 + 65 = n - 32 by omega], rfl⟩
  ·rw [if_neg qo] at hx
   subst hx
   go_enter func222, ntmps222
   go_wp2
   go_ret
   exact ⟨rfl, rfl⟩
 ·rw [if_neg qo] at hx
  subst hx
  go_enter func222, ntmps222
  go_wp2
  go_ret
  exact ⟨rfl, rfl⟩
theorem tTurnedB (c : UInt8) (w : World) :
  Calls Tryz.prog 194 #[.int .u8 c.toNat] w fun e w' => e = .returned (.int .u8 (turnU c).toNat) ∧ w' = w := by
 have H1 : Hid (∀ ww, Calls Tryz.prog 220 #[.int .u8 c.toNat] ww fun e w' => e = .returned (.int .u8 (smallU c).toNat) ∧ w' = ww) := fun ww => tSmall c ww
 have H2 : Hid (∀ ww, Calls Tryz.prog 222 #[.int .u8 c.toNat] ww fun e w' => e = .returned (.int .u8 (greatU c).toNat) ∧ w' = ww) := fun ww => tGreat c ww
 unfold turnU
 by_cases h : smallU c = c
 ·rw [if_pos h]
  rw [h] at H1
  generalize ((greatU c).toNat : Int) = X at *
  go_enter func194, ntmps194
  go_wp2_with fail
  refine (H1.out _).mono ?_
  rintro e w' ⟨rfl, rfl⟩
  go_wp2_with fail
  refine (H2.out _).mono ?_
  rintro e w' ⟨rfl, rfl⟩
  go_wp2
  go_ret
  exact ⟨rfl, rfl⟩
 ·rw [if_neg h]
  have hne : ¬ ((smallU c).toNat : Int) = (c.toNat : Int) := by
   intro e
   apply h
   exact UInt8.toNat_inj.1 qo
  generalize ((smallU c).toNat : Int) = X at *
  go_enter func194, ntmps194
  go_wp2_with fail
  refine (H1.out _).mono ?_
  rintro e w' ⟨rfl, rfl⟩
  go_wp2
  go_ret
  exact ⟨rfl, rfl⟩
structure Byt (w : World) (b : Nat) (l : List UInt8) : Prop where
 c : ∀ (j : Nat) (h : j < l.length), w.cell? ⟨b, j, none⟩ = some (.int .u8 (l[j].toNat : Int))
 fz : ∀ j : Nat, j < l.length → w.frozen? ⟨b, j, none⟩ = false
 lt : b < w.heap.size
theorem Byt.below {w w' : World} {b : Nat} {l : List UInt8} (h : Byt w b l) (hb : Below w.heap.size w w') : Byt w' b l :=
 ⟨fun j hj => (hb.cell (p := ⟨b, j, none⟩) h.lt).trans (h.c j hj), fun j hj => (hb.frozen (p := ⟨b, j, none⟩) h.lt).trans (h.fz j hj), Nat.lt_of_lt_of_le h.lt hb.size⟩
theorem Byt.set {w : World} {b : Nat} {l : List UInt8} (h : Byt w b l) (k : Nat) (x : UInt8) (hk : k < l.length) : Byt (w.setCell ⟨b, k, none⟩ (.int .u8 x.toNat)) b (l.set k x) := by
 refine ⟨fun j hj => ?_, fun j hj => ?_, by simpa [World.setCell] using h.lt⟩
 ·by_cases e : k = j
  ·subst e
   have := h.c k hk
   have hfz := h.fz k hk
   go_simp
  ·have hj' : j < l.length := by simpa using hj
   have := h.c j hj'
   rw [World.cell?_setCell_other _ _ _ _ qf, this]
   simp [List.getElem_set, e]
 ·rw [frozen_set]; exact h.fz j (by simpa using hj)
theorem tEach (s : ByteArray) (K : Nat) (F : UInt8 → UInt8) (w : World) (hs : s.size ≤ 1000)
  (HEn : ∀ args ww, (callFunc K args).run Tryz.prog ww = .ok (.enter K args) ww)
  (HF : Hid (∀ (c : UInt8) ww, Calls Tryz.prog K #[.int .u8 c.toNat] ww fun e w' => e = .returned (.int .u8 (F c).toNat) ∧ w' = ww)) :
  qC 193 #[.string s, .func (.func K) #[] #[]] w (.string ⟨(s.data.toList.map F).toArray⟩) := by
 have hcv := fun ww : World => run_bytes_of_string (P := Tryz.prog) ww 9 48 5 s underlying9 underlying48 underlying5
 have hlen : s.data.toList.length = s.size := by rw [Array.length_toList]; rfl
 have HL : Hid (s.data.toList.length = s.size) := hlen
 have B0 : Byt (w.alloc (.cells (bytesRow s (grownCap w s.size 0 5)) 5 ((bytesRow s (grownCap w s.size 0 5)).size, (bytesRow s (grownCap w s.size 0 5)).size + 1))).drew w.heap.size s.data.toList := by
  refine ⟨fun j hj => ?_, fun j hj => ?_, by simp⟩
  ·refine memLater ((Below.refl _ _).drew) ?_
   rw [World.cell?_alloc_mark, bytesRow_at s _ j (by rw [← Array.length_toList]; exact hj)]
   try simp
  ·have hz : j < (bytesRow s (grownCap w s.size 0 5)).size := by
    have : s.data.size = s.size := rfl
    simp [bytesRow]
    omega
   have := World.frozen?_alloc_mark w (bytesRow s (grownCap w s.size 0 5)) 5 (bytesRow s (grownCap w s.size 0 5)).size ((bytesRow s (grownCap w s.size 0 5)).size + 1) j
   refine Eq.trans ?_ (this.trans ?_)
   ·rfl
   ·generalize (bytesRow s (grownCap w s.size 0 5)).size = n at *
    simp
    omega
 have Bl : Below w.heap.size w (w.alloc (.cells (bytesRow s (grownCap w s.size 0 5)) 5 ((bytesRow s (grownCap w s.size 0 5)).size, (bytesRow s (grownCap w s.size 0 5)).size + 1))).drew := by
  repeat exact qB
 generalize s.data.toList = l at *
 clear hlen
 go_enter func193, ntmps193
 go_wp2_with fail
 generalize (w.alloc (.cells (bytesRow s (grownCap w s.size 0 5)) 5 ((bytesRow s (grownCap w s.size 0 5)).size, (bytesRow s (grownCap w s.size 0 5)).size + 1))).drew = W1 at *
 go_loopw [12] (fun a wr => ∃ (k : Nat), k ≤ s.size ∧ a = .int .i64 k ∧ Byt wr w.heap.size ((l.take k).map F ++ l.drop k) ∧ Below w.heap.size w wr) (fun a _ => s.size - (intOf a).toNat)
 case atStart => exact ⟨0, Nat.zero_le _, rfl, by simpa using B0, Bl⟩
 case round =>
  clear B0 Bl
  obtain ⟨k, hk, rfl, B, hB⟩ := hrel
  by_cases hlt : k < s.size
  ·have hkl : k < l.length := by rw [HL.out]; exact hlt
   have hlL : ((l.take k).map F ++ l.drop k).length = l.length := by simp; omega
   have hc := B.c k qo
   have hfz := B.fz k qo
   have hlw := B.lt
   have hx : ((l.take k).map F ++ l.drop k)[k]'(by omega) = l[k] := by
    rw [List.getElem_append_right qs]
    simp
    congr 1
    omega
   rw [hx] at hc
   have HFk : Hid (∀ ww, Calls Tryz.prog K #[.int .u8 (l[k]'hkl).toNat] ww fun e w' => e = .returned (.int .u8 (F (l[k]'hkl)).toNat) ∧ w' = ww) := fun ww => HF.out _ ww
   have i1 : ((k : Nat) : Int) < ((s.size : Nat) : Int) := by omega
   go_wp2_with fail
   refine (HFk.out _).mono ?_
   rintro e w' ⟨rfl, rfl⟩
   have B2 := B.set k (F (l[k]'hkl)) qo
   go_wp2
   go_round
   case rel =>
    refine ⟨k + 1, by omega, by go_num, ?_, ?_⟩
    ·have el : ((l.take k).map F ++ l.drop k).set k (F (l[k]'hkl)) = (l.take (k + 1)).map F ++ l.drop (k + 1) := by
      rw [List.set_append_right _ _ qs]
      have e1 : k - (List.map F (List.take k l)).length = 0 := by simp; omega
      rw [e1, List.drop_eq_getElem_cons hkl, List.set_cons_zero, List.take_succ_eq_append_getElem hkl, List.map_append]
      simp
     rw [← el]
     exact B2
    ·repeat exact qB
   case measure => simp [intOf] <;> omega
  ·have hns : ¬ ((k : Nat) : Int) < ((s.size : Nat) : Int) := by omega
   have ek : k = s.size := by omega
   subst ek
   have hbk := run_convert_bytes_back (P := Tryz.prog) wr 48 9 5 ⟨w.heap.size, 0, none⟩ (grownCap w s.size 0 5) (l.map F) underlying48 underlying5 underlying9 (by
    intro j hj
    have hj' : j < ((l.take s.size).map F ++ l.drop s.size).length := by simp at hj ⊢; omega
    have := B.c j hj'
    have e2 : (l.take s.size).map F ++ l.drop s.size = l.map F := by
     rw [← HL.out, List.take_length, List.drop_length, List.append_nil]
    simp only [e2] at this
    rw [Go.WideShapes.add_plain, Nat.zero_add]
    exact this)
   rw [List.length_map, HL.out] at hbk
   go_wp2
   go_ret
   refine ⟨rfl, ?_⟩
   repeat exact qB
