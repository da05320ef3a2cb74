/- A part. -/
import Derived.Test.YtlendfhehhacpaaGreatU29
set_option linter.unusedVariables false
set_option linter.unusedSimpArgs false
set_option maxRecDepth 100000
set_option maxHeartbeats 8000000
namespace Go.Proofs.YtlendfhehhacpaaGreat
open Go.RowKit Nib Tryz
def isFnd (key : Int) : Prop := key = 102 ∨ key = 116 ∨ key = 70 ∨ key = 84
def shortOf (key : Int) : Bool := key == 116 || key == 84
theorem sShort_any (key ch : Int) (w : World) :
  qC 224 #[.agg #[.int .u8 key, .int .u8 ch]] w (.bool (shortOf key)) := by
 by_cases hk : key = 116
 ·subst hk
  go_enter func224, ntmps224
  go_wp2
  all_goals
   first
    | (exact qV (.bool true) (by simp [results, results224, go_sem]) rfl)
 ·have e : shortOf key = (key == 84) := by unfold shortOf; simp [hk]
  rw [e]
  have hb : (key == 116) = false := by simp [hk]
  go_enter func224, ntmps224
  go_wp2
  all_goals
   first
    | (exact qV (.bool (key == 84)) (by simp [results, results224, go_sem]) rfl)
theorem sGoFrom_none (s : ByteArray) (p n fr ch : Int) (v c : Bool) (w : World) :
  qC 204 #[.agg #[.int .u8 0, .int .u8 ch], .agg #[.string s, .int .i64 (p), .int .i64 (n), .bool v, .bool c], .int .i64 fr] w (.tuple #[.agg #[.int .i64 (wayX (((0 : Int), (0 : Int), true))), .int .i64 (wayK (((0 : Int), (0 : Int), true)))], .bool (wayZ (((0 : Int), (0 : Int), true)))]) := by
 rw [wayX_t, wayK_t, wayZ_t]
 go_enter func204, ntmps204
 go_wp2
 all_goals
  first
   | (exact qV (.tuple #[.agg #[.int .i64 0, .int .i64 0], .bool false]) (by simp [results, results204, go_sem]) rfl)
theorem qt23 {P : Prop} (h : P := by
  have g2 : w1.cell? ⟨w.heap.size, 1, none⟩ = some (.int .u8 ch) := memLater h1 f2
  clear hc1 hf1
  go_wp2
  all_goals
   first
    | (exact qV (.tuple #[.agg #[.int .i64 0, .int .i64 0], .bool false]) (by simp [results, results204, go_sem, RB1_0, RB1_1, RB1_z, RB1_l]) rfl)
 ) : P := h
theorem sGoFrom_up (s : ByteArray) (p n fr : Nat) (v c : Bool) (key ch : Int) (w : World) (hs : s.size ≤ 1000) (hp : p ≤ s.size) (hn : n ≤ 99) (hfr : fr ≤ 2) (hfr1 : 1 ≤ fr) (hk : key = 102 ∨ key = 116) :
  qC 204 #[.agg #[.int .u8 key, .int .u8 ch], .agg #[.string s, .int .i64 (p), .int .i64 (n), .bool v, .bool c], .int .i64 fr] w (.tuple #[.agg #[.int .i64 (wayX (byteWay s p key ch (max n 1) fr)), .int .i64 (wayK (byteWay s p key ch (max n 1) fr))], .bool (wayZ (byteWay s p key ch (max n 1) fr))]) := by
 have HS : qH 238 #[.agg #[.int .u8 key, .int .u8 ch], .agg #[.string s, .int .i64 (p), .int .i64 (n), .bool v, .bool c], .int .i64 fr, .int .i64 1] (.tuple #[.int .i64 (foI (fndU s ch (fin s p) (fin s p - (p + fr)) (max n 1) (p + fr))), .bool (foB (fndU s ch (fin s p) (fin s p - (p + fr)) (max n 1) (p + fr)))]) := fun ww => sSeek_up s p n fr v c key ch ww hs hp hn hfr hfr1
 have HT : qH 224 #[.agg #[.int .u8 key, .int .u8 ch]] (.bool (shortOf key)) := fun ww => sShort_any key ch ww
 have HW : Hid (byteWay s p key ch (max n 1) fr = resU (if shortOf key = true then (-1) else 0) (fndU s ch (fin s p) (fin s p - (p + fr)) (max n 1) (p + fr))) := by
  rw [Hid]; unfold byteWay
  rcases hk with rfl | rfl
  ·rfl
  ·rfl
 have hlt : ∀ i, fndU s ch (fin s p) (fin s p - (p + fr)) (max n 1) (p + fr) = some i → i < 1000 := by
  intro i hi
  have h1 := (fndU_lt _ _ _ _ hi).2
  have h2 := fin_le hp
  omega
 generalize fndU s ch (fin s p) (fin s p - (p + fr)) (max n 1) (p + fr) = O at *
 generalize byteWay s p key ch (max n 1) fr = R at *
 cases O with
 | none =>
  have HZ : Hid (R = (0, 0, true)) := by rw [Hid, HW.out]; rfl
  clear HW hlt
  rw [HZ.out, wayX_t, wayK_t, wayZ_t]
  have HS' : qH 238 #[.agg #[.int .u8 key, .int .u8 ch], .agg #[.string s, .int .i64 (p), .int .i64 (n), .bool v, .bool c], .int .i64 fr, .int .i64 1] (.tuple #[.int .i64 0, .bool false]) := HS
  clear HS HZ
  rcases hk with rfl | rfl
  ·go_enter func204, ntmps204
   have RB : Two (((w.alloc (.cells #[.int .u8 102, .int .u8 ch] 95)).alloc (.cells #[.string s, .int .i64 (p), .int .i64 (n), .bool v, .bool c] 206)).alloc (.cells #[.int .i64 0, .int .i64 0] 202)) (w.heap.size + 1 + 1) 0 0 := qN
   have f1 : (((w.alloc (.cells #[.int .u8 102, .int .u8 ch] 95)).alloc (.cells #[.string s, .int .i64 (p), .int .i64 (n), .bool v, .bool c] 206)).alloc (.cells #[.int .i64 0, .int .i64 0] 202)).cell? ⟨w.heap.size, 0, none⟩ = some (.int .u8 102) := memLater ((Below.refl _ _).alloc (Nat.le_refl _) _) qi
   have f2 : (((w.alloc (.cells #[.int .u8 102, .int .u8 ch] 95)).alloc (.cells #[.string s, .int .i64 (p), .int .i64 (n), .bool v, .bool c] 206)).alloc (.cells #[.int .i64 0, .int .i64 0] 202)).cell? ⟨w.heap.size, 1, none⟩ = some (.int .u8 ch) := memLater ((Below.refl _ _).alloc (Nat.le_refl _) _) qi
   go_wp2_with fail
   refine (HS'.out _).mono ?_
   rintro r1 w1 ⟨rfl, h1⟩
   obtain ⟨hc1, hf1, hz1⟩ := qb h1
   (try simp at hz1)
   have RB1 : Two w1 (w.heap.size + 1 + 1) (0) (0) := qTw
   have ⟨RB1_0, RB1_1, RB1_z, RB1_l⟩ := RB1
   have g1 : w1.cell? ⟨w.heap.size, 0, none⟩ = some (.int .u8 102) := memLater h1 f1
   exact qt23
  ·go_enter func204, ntmps204
   have RB : Two (((w.alloc (.cells #[.int .u8 116, .int .u8 ch] 95)).alloc (.cells #[.string s, .int .i64 (p), .int .i64 (n), .bool v, .bool c] 206)).alloc (.cells #[.int .i64 0, .int .i64 0] 202)) (w.heap.size + 1 + 1) 0 0 := qN
   have f1 : (((w.alloc (.cells #[.int .u8 116, .int .u8 ch] 95)).alloc (.cells #[.string s, .int .i64 (p), .int .i64 (n), .bool v, .bool c] 206)).alloc (.cells #[.int .i64 0, .int .i64 0] 202)).cell? ⟨w.heap.size, 0, none⟩ = some (.int .u8 116) := memLater ((Below.refl _ _).alloc (Nat.le_refl _) _) qi
   have f2 : (((w.alloc (.cells #[.int .u8 116, .int .u8 ch] 95)).alloc (.cells #[.string s, .int .i64 (p), .int .i64 (n), .bool v, .bool c] 206)).alloc (.cells #[.int .i64 0, .int .i64 0] 202)).cell? ⟨w.heap.size, 1, none⟩ = some (.int .u8 ch) := memLater ((Below.refl _ _).alloc (Nat.le_refl _) _) qi
   go_wp2_with fail
   refine (HS'.out _).mono ?_
   rintro r1 w1 ⟨rfl, h1⟩
   obtain ⟨hc1, hf1, hz1⟩ := qb h1
   (try simp at hz1)
   have RB1 : Two w1 (w.heap.size + 1 + 1) (0) (0) := qTw
   have ⟨RB1_0, RB1_1, RB1_z, RB1_l⟩ := RB1
   have g1 : w1.cell? ⟨w.heap.size, 0, none⟩ = some (.int .u8 116) := memLater h1 f1
   exact qt23
 | some i =>
  have hi := hlt i rfl
  have HS' : qH 238 #[.agg #[.int .u8 key, .int .u8 ch], .agg #[.string s, .int .i64 (p), .int .i64 (n), .bool v, .bool c], .int .i64 fr, .int .i64 1] (.tuple #[.int .i64 i, .bool true]) := HS
  clear HS hlt
  rcases hk with rfl | rfl
  ·have HZ : Hid (R = ((i : Int) + 0, 1, false)) := HW.out
   rw [HZ.out, wayX_f, wayK_f, wayZ_f, Int.add_zero]
   have HT : qH 224 #[.agg #[.int .u8 102, .int .u8 ch]] (.bool false) := HT
   clear HW HZ
   go_enter func204, ntmps204
   have RB : Two (((w.alloc (.cells #[.int .u8 102, .int .u8 ch] 95)).alloc (.cells #[.string s, .int .i64 (p), .int .i64 (n), .bool v, .bool c] 206)).alloc (.cells #[.int .i64 0, .int .i64 0] 202)) (w.heap.size + 1 + 1) 0 0 := qN
   have f1 : (((w.alloc (.cells #[.int .u8 102, .int .u8 ch] 95)).alloc (.cells #[.string s, .int .i64 (p), .int .i64 (n), .bool v, .bool c] 206)).alloc (.cells #[.int .i64 0, .int .i64 0] 202)).cell? ⟨w.heap.size, 0, none⟩ = some (.int .u8 102) := memLater ((Below.refl _ _).alloc (Nat.le_refl _) _) qi
   have f2 : (((w.alloc (.cells #[.int .u8 102, .int .u8 ch] 95)).alloc (.cells #[.string s, .int .i64 (p), .int .i64 (n), .bool v, .bool c] 206)).alloc (.cells #[.int .i64 0, .int .i64 0] 202)).cell? ⟨w.heap.size, 1, none⟩ = some (.int .u8 ch) := memLater ((Below.refl _ _).alloc (Nat.le_refl _) _) qi
   go_wp2_with fail
   refine (HS'.out _).mono ?_
   rintro r1 w1 ⟨rfl, h1⟩
   obtain ⟨hc1, hf1, hz1⟩ := qb h1
   (try simp at hz1)
   have RB1 : Two w1 (w.heap.size + 1 + 1) (0) (0) := qTw
   have ⟨RB1_0, RB1_1, RB1_z, RB1_l⟩ := RB1
   have g1 : w1.cell? ⟨w.heap.size, 0, none⟩ = some (.int .u8 102) := memLater h1 f1
   have g2 : w1.cell? ⟨w.heap.size, 1, none⟩ = some (.int .u8 ch) := memLater h1 f2
   clear hc1 hf1
   go_wp2_with fail
   refine (HT.out _).mono ?_
   rintro r2 w2 ⟨rfl, h2⟩
   obtain ⟨hc2, hf2, hz2⟩ := qb h2
   (try simp at hz2)
   have RB2 : Two w2 (w.heap.size + 1 + 1) (0) (0) := qTw
   have ⟨RB2_0, RB2_1, RB2_z, RB2_l⟩ := RB2
   clear hc2 hf2
   go_wp2
   all_goals
    first
     | (exact qV (.tuple #[.agg #[.int .i64 i, .int .i64 1], .bool true]) (by simp [results, results204, go_sem, RB2_0, RB2_1, RB2_z, RB2_l]) rfl)
  ·have HZ : Hid (R = ((i : Int) + (-1), 1, false)) := HW.out
   rw [HZ.out, wayX_f, wayK_f, wayZ_f]
   have HT : qH 224 #[.agg #[.int .u8 116, .int .u8 ch]] (.bool true) := HT
   clear HW HZ
   go_enter func204, ntmps204
   have RB : Two (((w.alloc (.cells #[.int .u8 116, .int .u8 ch] 95)).alloc (.cells #[.string s, .int .i64 (p), .int .i64 (n), .bool v, .bool c] 206)).alloc (.cells #[.int .i64 0, .int .i64 0] 202)) (w.heap.size + 1 + 1) 0 0 := qN
   have f1 : (((w.alloc (.cells #[.int .u8 116, .int .u8 ch] 95)).alloc (.cells #[.string s, .int .i64 (p), .int .i64 (n), .bool v, .bool c] 206)).alloc (.cells #[.int .i64 0, .int .i64 0] 202)).cell? ⟨w.heap.size, 0, none⟩ = some (.int .u8 116) := memLater ((Below.refl _ _).alloc (Nat.le_refl _) _) qi
   have f2 : (((w.alloc (.cells #[.int .u8 116, .int .u8 ch] 95)).alloc (.cells #[.string s, .int .i64 (p), .int .i64 (n), .bool v, .bool c] 206)).alloc (.cells #[.int .i64 0, .int .i64 0] 202)).cell? ⟨w.heap.size, 1, none⟩ = some (.int .u8 ch) := memLater ((Below.refl _ _).alloc (Nat.le_refl _) _) qi
   go_wp2_with fail
   refine (HS'.out _).mono ?_
   rintro r1 w1 ⟨rfl, h1⟩
   obtain ⟨hc1, hf1, hz1⟩ := qb h1
   (try simp at hz1)
   have RB1 : Two w1 (w.heap.size + 1 + 1) (0) (0) := qTw
   have ⟨RB1_0, RB1_1, RB1_z, RB1_l⟩ := RB1
   have g1 : w1.cell? ⟨w.heap.size, 0, none⟩ = some (.int .u8 116) := memLater h1 f1
   have g2 : w1.cell? ⟨w.heap.size, 1, none⟩ = some (.int .u8 ch) := memLater h1 f2
   clear hc1 hf1
   go_wp2_with fail
   refine (HT.out _).mono ?_
   rintro r2 w2 ⟨rfl, h2⟩
   obtain ⟨hc2, hf2, hz2⟩ := qb h2
   (try simp at hz2)
   have RB2 : Two w2 (w.heap.size + 1 + 1) (0) (0) := qTw
   have ⟨RB2_0, RB2_1, RB2_z, RB2_l⟩ := RB2
   clear hc2 hf2
   go_wp2
   all_goals
    first
     | (exact qV (.tuple #[.agg #[.int .i64 ((i : Int) - 1), .int .i64 1], .bool true]) (by simp [results, results204, go_sem, RB2_0, RB2_1, RB2_z, RB2_l]) (by first | rfl | (congr 1; done)))
theorem sGoFrom_down (s : ByteArray) (p n fr : Nat) (v c : Bool) (key ch : Int) (w : World) (hs : s.size ≤ 1000) (hp : p ≤ s.size) (hn : n ≤ 99) (hfr : fr ≤ 2) (hfr1 : 1 ≤ fr) (hk : key = 70 ∨ key = 84) :
  qC 204 #[.agg #[.int .u8 key, .int .u8 ch], .agg #[.string s, .int .i64 (p), .int .i64 (n), .bool v, .bool c], .int .i64 fr] w (.tuple #[.agg #[.int .i64 (wayX (byteWay s p key ch (max n 1) fr)), .int .i64 (wayK (byteWay s p key ch (max n 1) fr))], .bool (wayZ (byteWay s p key ch (max n 1) fr))]) := by
 have HS : qH 238 #[.agg #[.int .u8 key, .int .u8 ch], .agg #[.string s, .int .i64 (p), .int .i64 (n), .bool v, .bool c], .int .i64 fr, .int .i64 (-1)] (.tuple #[.int .i64 (foI (fndD s ch (beg s p) (max n 1) (p + 1 - fr))), .bool (foB (fndD s ch (beg s p) (max n 1) (p + 1 - fr)))]) := fun ww => sSeek_down s p n fr v c key ch ww hs hp hn hfr hfr1
 have HT : qH 224 #[.agg #[.int .u8 key, .int .u8 ch]] (.bool (shortOf key)) := fun ww => sShort_any key ch ww
 have HW : Hid (byteWay s p key ch (max n 1) fr = resD (if shortOf key = true then 1 else 0) (fndD s ch (beg s p) (max n 1) (p + 1 - fr))) := by
  rw [Hid]; unfold byteWay
  rcases hk with rfl | rfl
  ·rfl
  ·rfl
 have hlt : ∀ i, fndD s ch (beg s p) (max n 1) (p + 1 - fr) = some i → i < 1000 := by
  intro i hi
  have h1 := (fndD_lt _ _ _ hi).2
  have h2 := fin_le hp
  omega
 generalize fndD s ch (beg s p) (max n 1) (p + 1 - fr) = O at *
 generalize byteWay s p key ch (max n 1) fr = R at *
 cases O with
 | none =>
  have HZ : Hid (R = (0, 0, true)) := by rw [Hid, HW.out]; rfl
  clear HW hlt
  rw [HZ.out, wayX_t, wayK_t, wayZ_t]
  have HS' : qH 238 #[.agg #[.int .u8 key, .int .u8 ch], .agg #[.string s, .int .i64 (p), .int .i64 (n), .bool v, .bool c], .int .i64 fr, .int .i64 (-1)] (.tuple #[.int .i64 0, .bool false]) := HS
  clear HS HZ
  rcases hk with rfl | rfl
  ·go_enter func204, ntmps204
   have RB : Two (((w.alloc (.cells #[.int .u8 70, .int .u8 ch] 95)).alloc (.cells #[.string s, .int .i64 (p), .int .i64 (n), .bool v, .bool c] 206)).alloc (.cells #[.int .i64 0, .int .i64 0] 202)) (w.heap.size + 1 + 1) 0 0 := qN
   have f1 : (((w.alloc (.cells #[.int .u8 70, .int .u8 ch] 95)).alloc (.cells #[.string s, .int .i64 (p), .int .i64 (n), .bool v, .bool c] 206)).alloc (.cells #[.int .i64 0, .int .i64 0] 202)).cell? ⟨w.heap.size, 0, none⟩ = some (.int .u8 70) := memLater ((Below.refl _ _).alloc (Nat.le_refl _) _) qi
   have f2 : (((w.alloc (.cells #[.int .u8 70, .int .u8 ch] 95)).alloc (.cells #[.string s, .int .i64 (p), .int .i64 (n), .bool v, .bool c] 206)).alloc (.cells #[.int .i64 0, .int .i64 0] 202)).cell? ⟨w.heap.size, 1, none⟩ = some (.int .u8 ch) := memLater ((Below.refl _ _).alloc (Nat.le_refl _) _) qi
   go_wp2_with fail
   refine (HS'.out _).mono ?_
   rintro r1 w1 ⟨rfl, h1⟩
   obtain ⟨hc1, hf1, hz1⟩ := qb h1
   (try simp at hz1)
   have RB1 : Two w1 (w.heap.size + 1 + 1) (0) (0) := qTw
   have ⟨RB1_0, RB1_1, RB1_z, RB1_l⟩ := RB1
   have g1 : w1.cell? ⟨w.heap.size, 0, none⟩ = some (.int .u8 70) := memLater h1 f1
   exact qt23
  ·go_enter func204, ntmps204
   have RB : Two (((w.alloc (.cells #[.int .u8 84, .int .u8 ch] 95)).alloc (.cells #[.string s, .int .i64 (p), .int .i64 (n), .bool v, .bool c] 206)).alloc (.cells #[.int .i64 0, .int .i64 0] 202)) (w.heap.size + 1 + 1) 0 0 := qN
   have f1 : (((w.alloc (.cells #[.int .u8 84, .int .u8 ch] 95)).alloc (.cells #[.string s, .int .i64 (p), .int .i64 (n), .bool v, .bool c] 206)).alloc (.cells #[.int .i64 0, .int .i64 0] 202)).cell? ⟨w.heap.size, 0, none⟩ = some (.int .u8 84) := memLater ((Below.refl _ _).alloc (Nat.le_refl _) _) qi
   have f2 : (((w.alloc (.cells #[.int .u8 84, .int .u8 ch] 95)).alloc (.cells #[.string s, .int .i64 (p), .int .i64 (n), .bool v, .bool c] 206)).alloc (.cells #[.int .i64 0, .int .i64 0] 202)).cell? ⟨w.heap.size, 1, none⟩ = some (.int .u8 ch) := memLater ((Below.refl _ _).alloc (Nat.le_refl _) _) qi
   go_wp2_with fail
   refine (HS'.out _).mono ?_
   rintro r1 w1 ⟨rfl, h1⟩
   obtain ⟨hc1, hf1, hz1⟩ := qb h1
   (try simp at hz1)
   have RB1 : Two w1 (w.heap.size + 1 + 1) (0) (0) := qTw
   have ⟨RB1_0, RB1_1, RB1_z, RB1_l⟩ := RB1
   have g1 : w1.cell? ⟨w.heap.size, 0, none⟩ = some (.int .u8 84) := memLater h1 f1
   exact qt23
 | some i =>
  have hi := hlt i rfl
  have HS' : qH 238 #[.agg #[.int .u8 key, .int .u8 ch], .agg #[.string s, .int .i64 (p), .int .i64 (n), .bool v, .bool c], .int .i64 fr, .int .i64 (-1)] (.tuple #[.int .i64 i, .bool true]) := HS
  clear HS hlt
  rcases hk with rfl | rfl
  ·have HZ : Hid (R = ((i : Int) + 0, 0, false)) := HW.out
   rw [HZ.out, wayX_f, wayK_f, wayZ_f, Int.add_zero]
   have HT : qH 224 #[.agg #[.int .u8 70, .int .u8 ch]] (.bool false) := HT
   clear HW HZ
   go_enter func204, ntmps204
   have RB : Two (((w.alloc (.cells #[.int .u8 70, .int .u8 ch] 95)).alloc (.cells #[.string s, .int .i64 (p), .int .i64 (n), .bool v, .bool c] 206)).alloc (.cells #[.int .i64 0, .int .i64 0] 202)) (w.heap.size + 1 + 1) 0 0 := qN
   have f1 : (((w.alloc (.cells #[.int .u8 70, .int .u8 ch] 95)).alloc (.cells #[.string s, .int .i64 (p), .int .i64 (n), .bool v, .bool c] 206)).alloc (.cells #[.int .i64 0, .int .i64 0] 202)).cell? ⟨w.heap.size, 0, none⟩ = some (.int .u8 70) := memLater ((Below.refl _ _).alloc (Nat.le_refl _) _) qi
   have f2 : (((w.alloc (.cells #[.int .u8 70, .int .u8 ch] 95)).alloc (.cells #[.string s, .int .i64 (p), .int .i64 (n), .bool v, .bool c] 206)).alloc (.cells #[.int .i64 0, .int .i64 0] 202)).cell? ⟨w.heap.size, 1, none⟩ = some (.int .u8 ch) := memLater ((Below.refl _ _).alloc (Nat.le_refl _) _) qi
   go_wp2_with fail
   refine (HS'.out _).mono ?_
   rintro r1 w1 ⟨rfl, h1⟩
   obtain ⟨hc1, hf1, hz1⟩ := qb h1
   (try simp at hz1)
   have RB1 : Two w1 (w.heap.size + 1 + 1) (0) (0) := qTw
   have ⟨RB1_0, RB1_1, RB1_z, RB1_l⟩ := RB1
   have g1 : w1.cell? ⟨w.heap.size, 0, none⟩ = some (.int .u8 70) := memLater h1 f1
   have g2 : w1.cell? ⟨w.heap.size, 1, none⟩ = some (.int .u8 ch) := memLater h1 f2
   clear hc1 hf1
   go_wp2_with fail
   refine (HT.out _).mono ?_
   rintro r2 w2 ⟨rfl, h2⟩
   obtain ⟨hc2, hf2, hz2⟩ := qb h2
   (try simp at hz2)
   have RB2 : Two w2 (w.heap.size + 1 + 1) (0) (0) := qTw
   have ⟨RB2_0, RB2_1, RB2_z, RB2_l⟩ := RB2
   clear hc2 hf2
   go_wp2
   all_goals
    first
     | (exact qV (.tuple #[.agg #[.int .i64 i, .int .i64 0], .bool true]) (by simp [results, results204, go_sem, RB2_0, RB2_1, RB2_z, RB2_l]) rfl)
  ·have HZ : Hid (R = ((i : Int) + 1, 0, false)) := HW.out
   rw [HZ.out, wayX_f, wayK_f, wayZ_f]
   have HT : qH 224 #[.agg #[.int .u8 84, .int .u8 ch]] (.bool true) := HT
   clear HW HZ
   go_enter func204, ntmps204
   have RB : Two (((w.alloc (.cells #[.int .u8 84, .int .u8 ch] 95)).alloc (.cells #[.string s, .int .i64 (p), .int .i64 (n), .bool v, .bool c] 206)).alloc (.cells #[.int .i64 0, .int .i64 0] 202)) (w.heap.size + 1 + 1) 0 0 := qN
   have f1 : (((w.alloc (.cells #[.int .u8 84, .int .u8 ch] 95)).alloc (.cells #[.string s, .int .i64 (p), .int .i64 (n), .bool v, .bool c] 206)).alloc (.cells #[.int .i64 0, .int .i64 0] 202)).cell? ⟨w.heap.size, 0, none⟩ = some (.int .u8 84) := memLater ((Below.refl _ _).alloc (Nat.le_refl _) _) qi
   have f2 : (((w.alloc (.cells #[.int .u8 84, .int .u8 ch] 95)).alloc (.cells #[.string s, .int .i64 (p), .int .i64 (n), .bool v, .bool c] 206)).alloc (.cells #[.int .i64 0, .int .i64 0] 202)).cell? ⟨w.heap.size, 1, none⟩ = some (.int .u8 ch) := memLater ((Below.refl _ _).alloc (Nat.le_refl _) _) qi
   go_wp2_with fail
   refine (HS'.out _).mono ?_
   rintro r1 w1 ⟨rfl, h1⟩
   obtain ⟨hc1, hf1, hz1⟩ := qb h1
   (try simp at hz1)
   have RB1 : Two w1 (w.heap.size + 1 + 1) (0) (0) := qTw
   have ⟨RB1_0, RB1_1, RB1_z, RB1_l⟩ := RB1
   have g1 : w1.cell? ⟨w.heap.size, 0, none⟩ = some (.int .u8 84) := memLater h1 f1
   have g2 : w1.cell? ⟨w.heap.size, 1, none⟩ = some (.int .u8 ch) := memLater h1 f2
   clear hc1 hf1
   go_wp2_with fail
   refine (HT.out _).mono ?_
   rintro r2 w2 ⟨rfl, h2⟩
   obtain ⟨hc2, hf2, hz2⟩ := qb h2
   (try simp at hz2)
   have RB2 : Two w2 (w.heap.size + 1 + 1) (0) (0) := qTw
   have ⟨RB2_0, RB2_1, RB2_z, RB2_l⟩ := RB2
   clear hc2 hf2
   go_wp2
   all_goals
    first
     | (exact qV (.tuple #[.agg #[.int .i64 ((i : Int) + 1), .int .i64 0], .bool true]) (by simp [results, results204, go_sem, RB2_0, RB2_1, RB2_z, RB2_l]) (by first | rfl | (congr 1; done)))
