/- A part. -/
import Derived.Test.YtlendfhehhacpaaGreatT11
set_option linter.unusedVariables false
set_option linter.unusedSimpArgs false
set_option maxRecDepth 100000
set_option maxHeartbeats 8000000
namespace Go.Proofs.YtlendfhehhacpaaGreat
open Go.RowKit Nib Tryz
abbrev GivesB (f : Nat) (args : Array Value) (A B : World → Prop) (O : Int) (T : List Nat) : Prop :=
 Hid (∀ ww, A ww → Calls Tryz.prog f args ww fun e w' => e = .returned (.int .i64 O) ∧ B w' ∧ Upd T ww w')
def Firm (A : World → Prop) : Prop := ∀ w w', A w → Below w.heap.size w w' → A w'
abbrev HasR (A : World → Prop) (r d : Nat) (p : Pg) : Prop := ∀ w, A w → RdAt w r d p
theorem Firm.rd {r d : Nat} {p : Pg} : Firm (fun w => RdAt w r d p) := fun _ _ h hb => h.below hb
theorem mArrive_fail (r : Nat) (X K : Int) (A : World → Prop) (T : List Nat) (w : World) (hA : A w) (fA : Firm A) :
  Calls Tryz.prog 166 #[.pointer (some ⟨r, 0, none⟩), .agg #[.int .i64 X, .int .i64 K], .bool false] w fun e w' => e = .returned (.int .i64 4) ∧ A w' ∧ Upd T w w' := by
 go_enter func166, ntmps166
 go_wp2
 go_ret
 refine ⟨rfl, ?_, ?_⟩
 ·exact (fA _ _ hA qB)
 ·repeat exact qU
theorem qt61 {P : Prop} (h : P := by
  go_wp2
  go_ret
  refine ⟨rfl, ?_, ?_⟩
  ·exact (fB _ _ h3 qB)
  ·repeat exact qU
 ) : P := h
theorem mArrive_verb (r d : Nat) (p : Pg) (X K O : Int) (i j : Int) (l : Bool) (A B : World → Prop) (T : List Nat) (w : World) (hA : A w) (fA : Firm A) (fB : Firm B) (hr : HasR A r d p) (hT : r ∉ T) (hTl : ∀ k, k ∈ T → k < w.heap.size) (hn : p.n ≤ 99) (hb : p.behind ≤ 99) (hv : ¬ p.verb = 0)
  (HK : qH 203 #[.agg #[.string p.t, .int .i64 (p.pl), .int .i64 (cnt p), .bool (p.verb != 0), .bool (p.verb == 99)], .agg #[.int .i64 X, .int .i64 K]] (.agg #[.int .i64 i, .int .i64 j, .bool l]))
  (HD : GivesB 146 #[.pointer (some ⟨r, 0, none⟩), .int .u8 p.verb, .agg #[.int .i64 i, .int .i64 j, .bool l]] A B O T) :
  Calls Tryz.prog 166 #[.pointer (some ⟨r, 0, none⟩), .agg #[.int .i64 X, .int .i64 K], .bool true] w fun e w' => e = .returned (.int .i64 O) ∧ B w' ∧ Upd T w w' := by
 have HS : Hid (∀ ww, A ww → qC 168 #[.pointer (some ⟨r, 0, none⟩)] ww (.agg #[.string p.t, .int .i64 (p.pl), .int .i64 (cnt p), .bool (p.verb != 0), .bool (p.verb == 99)])) := fun ww hh => mStart r d p ww (hr ww hh) hn hb
 have h := hr w hA
 have hv' : (p.verb == 0) = false := by simp [hv]
 have hv2 : (p.verb != 0) = true := by simp [hv]
 have r3 := h.bg.c3
 have hlr := h.bg.lt
 rw [hv2] at HK HS
 have hTw : w.heap.size ∉ T := fun hk => by have := hTl _ hk; omega
 generalize cnt p = N at *
 generalize (p.verb == 99) = C at *
 clear h hv
 go_enter func166, ntmps166
 have g0 : (w.alloc (.cells #[.int .i64 X, .int .i64 K] 202)).cell? ⟨w.heap.size, 0, none⟩ = some (.int .i64 X) := by simp
 have g1 : (w.alloc (.cells #[.int .i64 X, .int .i64 K] 202)).cell? ⟨w.heap.size, 1, none⟩ = some (.int .i64 K) := by simp
 go_wp2_with fail
 go_region_held3 (fun ww => ww.cell? ⟨r, 3, none⟩ = some (.int .u8 p.verb) ∧ ww.cell? ⟨w.heap.size, 0, none⟩ = some (.int .i64 X) ∧ ww.cell? ⟨w.heap.size, 1, none⟩ = some (.int .i64 K)) (exact qK) (first | (go_at_call 168; refine Calls.mono (HS.out _ (fA _ _ hA qB)) ?_; rintro r1 w1 ⟨rfl, h1⟩; have hz1 := h1.size; (try simp at hz1); (try have ⟨hl1_0, hk1_0⟩ := qL r w1.heap.size); (try have ⟨hl1_1, hk1_1⟩ := qL w.heap.size w1.heap.size)) | (go_at_call 203; refine Calls.mono (HK.out _) ?_; rintro r2 w2 ⟨rfl, h2⟩; have hz2 := h2.size; (try simp at hz2); (try have ⟨hl2_0, hk2_0⟩ := qL r w2.heap.size); (try have ⟨hl2_1, hk2_1⟩ := qL w.heap.size w2.heap.size)) | (go_at_call 146; refine Calls.mono (HD.out _ (fA _ _ hA qB)) ?_; rintro r3 w3 ⟨rfl, h3, u3⟩; have hz3 := u3.size; (try simp at hz3); have a0 := u3.was (b := r) (o := 3) (v := .int .u8 p.verb) qM hT; have a1 := u3.was (b := w.heap.size) (o := 0) (v := .int .i64 X) qM hTw; have a2 := u3.was (b := w.heap.size) (o := 1) (v := .int .i64 K) qM hTw))
 exact qt61
theorem qt38 {P : Prop} (h : P := by
  go_wp2_with fail
  refine Calls.mono (HS.out _ (fA _ _ hA qB)) ?_
  rintro e w1 ⟨rfl, h1⟩
  have hz1 := h1.size
  (try simp at hz1)
  go_wp2_with fail
  refine Calls.mono (HG.out _) ?_
  rintro e w2 ⟨rfl, h2⟩
  have hz2 := h2.size
  (try simp at hz2)
  go_wp2_with fail
  refine Calls.mono (HA.out _ (fA _ _ hA qB)) ?_
  rintro e w3 ⟨rfl, h3, u3⟩
  exact qt61
 ) : P := h
theorem mWay_goB (r d : Nat) (p : Pg) (key X K O : Int) (Z : Bool) (A B : World → Prop) (T : List Nat) (w : World) (hA : A w) (fA : Firm A) (fB : Firm B) (hr : HasR A r d p) (hn : p.n ≤ 99) (hb : p.behind ≤ 99) (hk1 : isFind key = false) (hk2 : ¬ key = 103) (hk3 : ¬ key = 59) (hk4 : ¬ key = 44)
  (HG : qH 169 #[.int .u8 key, .agg #[.string p.t, .int .i64 (p.pl), .int .i64 (cnt p), .bool (p.verb != 0), .bool (p.verb == 99)]] (.tuple #[.agg #[.int .i64 X, .int .i64 K], .bool Z]))
  (HA : GivesB 166 #[.pointer (some ⟨r, 0, none⟩), .agg #[.int .i64 X, .int .i64 K], .bool Z] A B O T) :
  Calls Tryz.prog 148 #[.pointer (some ⟨r, 0, none⟩), .int .u8 key] w fun e w' => e = .returned (.int .i64 O) ∧ B w' ∧ Upd T w w' := by
 have HS : Hid (∀ ww, A ww → qC 168 #[.pointer (some ⟨r, 0, none⟩)] ww (.agg #[.string p.t, .int .i64 (p.pl), .int .i64 (cnt p), .bool (p.verb != 0), .bool (p.verb == 99)])) := fun ww hh => mStart r d p ww (hr ww hh) hn hb
 generalize cnt p = N at *
 generalize (p.verb == 99) = C at *
 generalize (p.verb != 0) = V at *
 simp only [isFind, Bool.or_eq_false_iff, beq_eq_false_iff_ne] at hk1
 obtain ⟨⟨⟨k1, k2⟩, k3⟩, k4⟩ := hk1
 have k1' : (key == 102) = false := by simp [k1]
 have k2' : (key == 116) = false := by simp [k2]
 have k3' : (key == 70) = false := by simp [k3]
 have k4' : (key == 84) = false := by simp [k4]
 have k5' : (key == 103) = false := by simp [hk2]
 have k6' : (key == 59) = false := by simp [hk3]
 have k7' : (key == 44) = false := by simp [hk4]
 clear k1 k2 k3 k4 hk2 hk3 hk4
 go_enter func148, ntmps148
 exact qt38
theorem mComplete_ggB (r d : Nat) (p : Pg) (X K O : Int) (Z : Bool) (A B : World → Prop) (T : List Nat) (w : World) (hA : A w) (fA : Firm A) (fB : Firm B) (hr : HasR A r d p) (hn : p.n ≤ 99) (hb : p.behind ≤ 99) (hp : p.part = 103)
  (HG : qH 169 #[.int .u8 103, .agg #[.string p.t, .int .i64 (p.pl), .int .i64 (cnt p), .bool (p.verb != 0), .bool (p.verb == 99)]] (.tuple #[.agg #[.int .i64 X, .int .i64 K], .bool Z]))
  (HA : GivesB 166 #[.pointer (some ⟨r, 0, none⟩), .agg #[.int .i64 X, .int .i64 K], .bool Z] A B O T) :
  Calls Tryz.prog 145 #[.pointer (some ⟨r, 0, none⟩), .int .u8 103] w fun e w' => e = .returned (.int .i64 O) ∧ B w' ∧ Upd T w w' := by
 have HS : Hid (∀ ww, A ww → qC 168 #[.pointer (some ⟨r, 0, none⟩)] ww (.agg #[.string p.t, .int .i64 (p.pl), .int .i64 (cnt p), .bool (p.verb != 0), .bool (p.verb == 99)])) := fun ww hh => mStart r d p ww (hr ww hh) hn hb
 generalize cnt p = N at *
 generalize (p.verb == 99) = C at *
 generalize (p.verb != 0) = V at *
 have b5 := (hr w hA).bg.c5
 have bl := (hr w hA).bg.lt
 rw [hp] at b5
 clear hp
 go_enter func145, ntmps145
 exact qt38
abbrev HasF (B : World → Prop) (r d : Nat) (a c : Int) : Prop := ∀ w, B w → w.cell? ⟨r, 0, none⟩ = some (.pointer (some ⟨d, 0, none⟩)) ∧ w.cell? ⟨d, 8, none⟩ = some (.int .u8 a) ∧ w.cell? ⟨d, 9, none⟩ = some (.int .u8 c)
theorem mWay_againB (r d : Nat) (p : Pg) (X K O : Int) (Z : Bool) (A B : World → Prop) (T : List Nat) (w : World) (hA : A w) (fA : Firm A) (fB : Firm B) (hr : HasR A r d p) (hf : HasF B r d p.fnd p.findC) (hn : p.n ≤ 99) (hb : p.behind ≤ 99)
  (HG : qH 183 #[.agg #[.int .u8 p.fnd, .int .u8 p.findC], .agg #[.string p.t, .int .i64 (p.pl), .int .i64 (cnt p), .bool (p.verb != 0), .bool (p.verb == 99)]] (.tuple #[.agg #[.int .i64 X, .int .i64 K], .bool Z]))
  (HA : GivesB 166 #[.pointer (some ⟨r, 0, none⟩), .agg #[.int .i64 X, .int .i64 K], .bool Z] A B O T) :
  Calls Tryz.prog 148 #[.pointer (some ⟨r, 0, none⟩), .int .u8 59] w fun e w' => e = .returned (.int .i64 O) ∧ B w' ∧ Upd T w w' := by
 have HS : Hid (∀ ww, A ww → qC 168 #[.pointer (some ⟨r, 0, none⟩)] ww (.agg #[.string p.t, .int .i64 (p.pl), .int .i64 (cnt p), .bool (p.verb != 0), .bool (p.verb == 99)])) := fun ww hh => mStart r d p ww (hr ww hh) hn hb
 generalize cnt p = N at *
 generalize (p.verb == 99) = C at *
 generalize (p.verb != 0) = V at *
 have b0 := (hr w hA).bg.c0
 have hlr := (hr w hA).bg.lt
 have c8 := (hr w hA).dk.c8
 have c9 := (hr w hA).dk.c9
 have hld := (hr w hA).dk.lt
 go_enter func148, ntmps148
 go_wp2_with fail
 go_region_held3 (fun ww => ww.cell? ⟨r, 0, none⟩ = some (.pointer (some ⟨d, 0, none⟩)) ∧ ww.cell? ⟨d, 8, none⟩ = some (.int .u8 p.fnd) ∧ ww.cell? ⟨d, 9, none⟩ = some (.int .u8 p.findC)) (exact qK) (first | (go_at_call 168; refine Calls.mono (HS.out _ (fA _ _ hA qB)) ?_; rintro e1 w1 ⟨rfl, h1⟩; have hz1 := h1.size; (try simp at hz1); have hlr1 : r < w1.heap.size := qo; have hld1 : d < w1.heap.size := qo) | (go_at_call 183; refine Calls.mono (HG.out _) ?_; rintro e2 w2 ⟨rfl, h2⟩; have hz2 := h2.size; (try simp at hz2); have hlr2 : r < w2.heap.size := qo; have hld2 : d < w2.heap.size := qo) | (go_at_call 166; refine Calls.mono (HA.out _ (fA _ _ hA qB)) ?_; rintro e3 w3 ⟨rfl, h3, u3⟩; obtain ⟨g0, g8, g9⟩ := hf w3 h3))
 exact qt61
theorem mWay_turnedB (r d : Nat) (p : Pg) (K1 X K O : Int) (Z : Bool) (A B : World → Prop) (T : List Nat) (w : World) (hA : A w) (fA : Firm A) (fB : Firm B) (hr : HasR A r d p) (hn : p.n ≤ 99) (hb : p.behind ≤ 99)
  (HT : qH 184 #[.agg #[.int .u8 p.fnd, .int .u8 p.findC]] (.agg #[.int .u8 K1, .int .u8 p.findC]))
  (HG : qH 183 #[.agg #[.int .u8 K1, .int .u8 p.findC], .agg #[.string p.t, .int .i64 (p.pl), .int .i64 (cnt p), .bool (p.verb != 0), .bool (p.verb == 99)]] (.tuple #[.agg #[.int .i64 X, .int .i64 K], .bool Z]))
  (HA : GivesB 166 #[.pointer (some ⟨r, 0, none⟩), .agg #[.int .i64 X, .int .i64 K], .bool Z] A B O T) :
  Calls Tryz.prog 148 #[.pointer (some ⟨r, 0, none⟩), .int .u8 44] w fun e w' => e = .returned (.int .i64 O) ∧ B w' ∧ Upd T w w' := by
 have HS : Hid (∀ ww, A ww → qC 168 #[.pointer (some ⟨r, 0, none⟩)] ww (.agg #[.string p.t, .int .i64 (p.pl), .int .i64 (cnt p), .bool (p.verb != 0), .bool (p.verb == 99)])) := fun ww hh => mStart r d p ww (hr ww hh) hn hb
 generalize cnt p = N at *
 generalize (p.verb == 99) = C at *
 generalize (p.verb != 0) = V at *
 have b0 := (hr w hA).bg.c0
 have hlr := (hr w hA).bg.lt
 have c8 := (hr w hA).dk.c8
 have c9 := (hr w hA).dk.c9
 have hld := (hr w hA).dk.lt
 go_enter func148, ntmps148
 go_wp2_with fail
 refine Calls.mono (HT.out _) ?_
 rintro e w4 ⟨rfl, h4⟩
 have hz4 := h4.size
 (try simp at hz4)
 exact qt38
theorem mDigitV_no (r d : Nat) (p : Pg) (key : Int) (w : World) (h : RdAt w r d p) (hv : ¬ p.verb = 0) (hd : isD p.behind key = false) :
  qC 139 #[.pointer (some ⟨r, 1, none⟩), .int .u8 key] w (.bool false) := by
 obtain ⟨c0, c1, c2, c3, c4, c5, fz, lt⟩ := h.bg
 clear h
 have hv' : (p.verb == 0) = false := by simp [hv]
 have hv2 : (p.verb != 0) = true := by simp [hv]
 clear hv
 simp only [isD, decide_eq_false_iff_not] at hd
 have l1 : r < w.heap.size + 1 := by omega
 have l2 : r < w.heap.size + 1 + 1 := by omega
 by_cases h1 : key < 48
 ·exact qt52
 ·by_cases h2 : 57 < key
  ·exact qt52
  ·have h3 : key = 48 := by omega
   have h4 : p.behind = 0 := by omega
   subst h3
   rw [h4] at c4
   exact qt52
theorem mDigitV_yes (r d : Nat) (p : Pg) (key : Int) (w : World) (h : RdAt w r d p) (hv : ¬ p.verb = 0) (hn : p.behind ≤ 99) (hd : isD p.behind key = true) :
  Calls Tryz.prog 139 #[.pointer (some ⟨r, 1, none⟩), .int .u8 key] w fun e w' => e = .returned (.bool true) ∧ RdAt w' r d { p with behind := nextN p.behind key } ∧ Upd [r] w w' := by
 have HS := h.set_behind (nextN p.behind key)
 obtain ⟨c0, c1, c2, c3, c4, c5, fz, lt⟩ := h.bg
 have H := h
 clear h
 have hv' : (p.verb == 0) = false := by simp [hv]
 have hv2 : (p.verb != 0) = true := by simp [hv]
 clear hv
 simp only [isD, decide_eq_true_eq] at hd
 have l1 : r < w.heap.size + 1 := by omega
 have l2 : r < w.heap.size + 1 + 1 := by omega
 have h1 : ¬ key < 48 := by omega
 have h2 : ¬ 57 < key := by omega
 have hN : nextN p.behind key = if 99 < p.behind * 10 + (key - 48).toNat then 99 else p.behind * 10 + (key - 48).toNat := rfl
 have h5 : ((key == 48) = false) ∨ ((key == 48) = true ∧ (((p.behind : Nat) : Int) == 0) = false) := by
  by_cases e : key = 48
  ·right; exact ⟨by simp [e], by simp; omega⟩
  ·left; simp [e]
 by_cases h3 : 99 < (p.behind : Int) * 10 + (key - 48)
 ·have HS2 : Hid (RdAt (w.setCell ⟨r, 4, none⟩ (.int .i64 99)) r d { p with behind := nextN p.behind key }) := by
   rw [hN, if_pos qo] at HS
   rw [hN, if_pos qo]
   exact HS
  generalize nextN p.behind key = NN at *
  clear hN HS hd
  rcases h5 with h5 | ⟨h5, h6⟩
  ·exact qt18
  ·exact qt18
 ·have HS2 : Hid (RdAt (w.setCell ⟨r, 4, none⟩ (.int .i64 ((p.behind : Int) * 10 + (key - 48)))) r d { p with behind := nextN p.behind key }) := by
   rw [hN, if_neg qo] at HS
   rw [hN, if_neg qo]
   have e : ((p.behind * 10 + (key - 48).toNat : Nat) : Int) = (p.behind : Int) * 10 + (key - 48) := by omega
   rw [e] at HS
   exact HS
  generalize nextN p.behind key = NN at *
  clear hN HS hd
  rcases h5 with h5 | ⟨h5, h6⟩
  ·exact qt18
  ·exact qt18
theorem mTake_digitV (r d : Nat) (p : Pg) (key : Int) (w : World) (h : RdAt w r d p) (hp : p.part = 0) (hv : ¬ p.verb = 0) (hn : p.behind ≤ 99) (hd : isD p.behind key = true) :
  Calls Tryz.prog 137 #[.agg #[.pointer (some ⟨r, 0, none⟩)], .int .u8 key] w fun e w' => e = .returned (.int .i64 0) ∧ RdAt w' r d { p with behind := nextN p.behind key } ∧ Upd [r, d] w w' := by
 have H := h
 have HD : Hid (∀ ww, RdAt ww r d p → Calls Tryz.prog 139 #[.pointer (some ⟨r, 1, none⟩), .int .u8 key] ww fun e w' => e = .returned (.bool true) ∧ RdAt w' r d { p with behind := nextN p.behind key } ∧ Upd [r] ww w') := fun ww hh => mDigitV_yes r d p key ww hh hv hn hd
 obtain ⟨b0, b1, b2, b3, b4, b5, bz, bl⟩ := h.bg
 rw [hp] at b5
 clear b1 b2 b3 b4 h
 have l1 : r < w.heap.size + 1 := by omega
 generalize hp2 : ({ p with behind := nextN p.behind key } : Pg) = p2 at *
 clear hp2 hp hv hn hd
 go_enter func137, ntmps137
 go_wp2_with fail
 refine Calls.mono (HD.out _ qRd) ?_
 rintro e w1 ⟨rfl, h1, u1⟩
 exact qt15
theorem qt24 {P : Prop} (h : P := by
  rintro e w2 ⟨rfl, h2, u2⟩
  go_wp2
  go_ret
  refine ⟨rfl, ?_, ?_⟩
  ·exact (fB _ _ h2 qB)
  ·repeat exact qU
 ) : P := h
theorem qt54 {P : Prop} (h : P := by
  go_wp2_with fail
  refine Calls.mono (HC.out _ (fA _ _ hA qB)) ?_
  exact qt24
 ) : P := h
theorem qt70 {P : Prop} (h : P := by
  go_wp2_with fail
  refine Calls.mono (HD.out _ qRd) ?_
  rintro e w1 ⟨rfl, h1⟩
  obtain ⟨hc1, hf1, hz1⟩ := qb h1
  simp at hz1
  have l2 : r < w1.heap.size := by omega
  exact qt54
 ) : P := h
theorem mTake_behind (r d : Nat) (p : Pg) (key O : Int) (A B : World → Prop) (T : List Nat) (w : World) (hA : A w) (fA : Firm A) (fB : Firm B) (hr : HasR A r d p) (hp : p.part = 0) (hv : ¬ p.verb = 0) (hd : isD p.behind key = false)
  (HC : GivesB 140 #[.agg #[.pointer (some ⟨r, 0, none⟩)], .int .u8 key] A B O T) :
  Calls Tryz.prog 137 #[.agg #[.pointer (some ⟨r, 0, none⟩)], .int .u8 key] w fun e w' => e = .returned (.int .i64 O) ∧ B w' ∧ Upd T w w' := by
 have H := hr w hA
 have HD : Hid (∀ ww, RdAt ww r d p → qC 139 #[.pointer (some ⟨r, 1, none⟩), .int .u8 key] ww (.bool false)) := fun ww hh => mDigitV_no r d p key ww hh hv hd
 obtain ⟨b0, b1, b2, b3, b4, b5, bz, bl⟩ := H.bg
 rw [hp] at b5
 have hv' : (p.verb == 0) = false := by simp [hv]
 have hv2 : (p.verb != 0) = true := by simp [hv]
 clear b1 b2 b4 hp hv hd
 have l1 : r < w.heap.size + 1 := by omega
 go_enter func137, ntmps137
 exact qt70
theorem mTake_partB (r d : Nat) (p : Pg) (key O : Int) (A B : World → Prop) (T : List Nat) (w : World) (hA : A w) (fA : Firm A) (fB : Firm B) (hr : HasR A r d p) (hp : ¬ p.part = 0)
  (HC : GivesB 138 #[.agg #[.pointer (some ⟨r, 0, none⟩)], .int .u8 key] A B O T) :
  Calls Tryz.prog 137 #[.agg #[.pointer (some ⟨r, 0, none⟩)], .int .u8 key] w fun e w' => e = .returned (.int .i64 O) ∧ B w' ∧ Upd T w w' := by
 have H := hr w hA
 obtain ⟨b0, b1, b2, b3, b4, b5, bz, bl⟩ := H.bg
 clear b1 b2 b3 b4
 have l1 : r < w.heap.size + 1 := by omega
 have hp' : (p.part == 0) = false := by simp [hp]
 have hp2 : (p.part != 0) = true := by simp [hp]
 clear hp
 go_enter func137, ntmps137
 exact qt54
theorem mCommand_verb (r d : Nat) (p : Pg) (key : Int) (w : World) (h : RdAt w r d p) (hk : key = 100 ∨ key = 121) :
  Calls Tryz.prog 141 #[.agg #[.pointer (some ⟨r, 0, none⟩)], .int .u8 key] w fun e w' => e = .returned (.int .i64 0) ∧ RdAt w' r d { p with verb := key } ∧ Upd [r, d] w w' := by
 have H := h
 have HV : Hid (∀ ww, RdAt ww r d p → Calls Tryz.prog 143 #[.agg #[.pointer (some ⟨r, 0, none⟩)], .int .u8 key] ww fun e w' => e = .returned (.int .i64 0) ∧ RdAt w' r d { p with verb := key } ∧ Upd [r] ww w') := by
  intro ww hh
  have HS := hh.set_verb key
  have b3 := hh.bg.c3
  have bz := hh.bg.fz
  have bl := hh.bg.lt
  have l1 : r < ww.heap.size + 1 := by omega
  have HH := hh
  generalize hp2 : ({ p with verb := key } : Pg) = p2 at *
  clear hp2 H h hk
  have HS' : Hid (RdAt (ww.setCell ⟨r, 3, none⟩ (.int .u8 key)) r d p2) := HS
  clear HS hh
  go_enter func143, ntmps143
  go_wp2
  go_ret
  refine ⟨rfl, ?_, ?_⟩
  ·repeat (with_reducible first | exact HS'.out | refine r_o ?_ _ | refine RdAt.alloc ?_ _ | refine RdAt.drewN ?_ _ | refine RdAt.drew ?_)
  ·repeat exact qU
 generalize hp2 : ({ p with verb := key } : Pg) = p2 at *
 clear hp2 h
 rcases hk with hk | hk
 ·subst hk
  go_enter func141, ntmps141
  go_wp2_with fail
  refine Calls.mono (HV.out _ qRd) ?_
  rintro e w1 ⟨rfl, h1, u1⟩
  exact qt15
 ·subst hk
  go_enter func141, ntmps141
  go_wp2_with fail
  refine Calls.mono (HV.out _ qRd) ?_
  rintro e w1 ⟨rfl, h1, u1⟩
  exact qt15
