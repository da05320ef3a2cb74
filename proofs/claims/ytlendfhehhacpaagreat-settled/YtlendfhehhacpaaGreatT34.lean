/- A part. -/
import Derived.Test.YtlendfhehhacpaaGreatT32
import Derived.Test.YtlendfhehhacpaaGreatT28
import Derived.Laws.BytesString
set_option linter.unusedVariables false
set_option linter.unusedSimpArgs false
set_option maxRecDepth 100000
set_option maxHeartbeats 8000000
namespace Go.Proofs.YtlendfhehhacpaaGreat
open Go.RowKit Nib Tryz
def putP (p : Pg) (b : ByteArray) : Pg := if (put p.t b p.pl).size ≤ 1000 then { p with t := put p.t b p.pl, pl := p.pl + b.size } else p
def wipeP (p : Pg) : Pg := if p.pl = 0 then p else { p with t := p.t.extract 0 (p.pl - 1) ++ p.t.extract p.pl p.t.size, pl := p.pl - 1 }
theorem iPut_any (r d : Nat) (p : Pg) (b : ByteArray) (w : World) (h : RdAt w r d p) (hs : p.t.size ≤ 1000) (hb : b.size ≤ 1000000) (hk : p.pl ≤ p.t.size) :
  Calls Tryz.prog 306 #[.agg #[.pointer (some ⟨d, 0, none⟩)], .string b] w fun e w' => e = .returned (.tuple #[]) ∧ RdAt w' r d (putP p b) ∧ Upd [d] w w' := by
 unfold putP
 by_cases hf : (put p.t b p.pl).size ≤ 1000
 ·rw [if_pos hf]; exact iPut_fits r d p b w h hs hb hk hf
 ·rw [if_neg hf]
  refine Calls.mono (iPut_long r d p b w h hs hb hk qo) ?_
  rintro e w' ⟨rfl, h1⟩
  exact ⟨rfl, h.below h1, Upd.of_below h1⟩
theorem iWipe_any (r d : Nat) (p : Pg) (w : World) (h : RdAt w r d p) (hs : p.t.size ≤ 1000) (hk : p.pl ≤ p.t.size) :
  Calls Tryz.prog 308 #[.agg #[.pointer (some ⟨d, 0, none⟩)]] w fun e w' => e = .returned (.tuple #[]) ∧ RdAt w' r d (wipeP p) ∧ Upd [d] w w' := by
 unfold wipeP
 by_cases hf : p.pl = 0
 ·rw [if_pos hf]
  refine Calls.mono (iWipe_none r d p w h hf) ?_
  rintro e w' ⟨rfl, h1⟩
  exact ⟨rfl, h.below h1, Upd.of_below h1⟩
 ·rw [if_neg hf]
  have := iWipe_one r d p (p.pl - 1) w h qo hs hk
  rw [show p.pl - 1 + 1 = p.pl by omega] at this
  exact this
def insP (p : Pg) (c : UInt8) : Pg :=
 if c.toNat = 10 then putP p (⟨#[10]⟩ ++ inBl p) else if c.toNat = 8 ∨ c.toNat = 127 then wipeP p else if c.toNat = 9 ∨ 32 ≤ c.toNat then putP p ⟨#[c]⟩ else p
theorem conv_oneB (ww : World) (n : Nat) (u : UInt8) (h : ww.cell? ⟨n, 0, none⟩ = some (.int .u8 u.toNat)) :
  (convert 48 9 (.slice (some ⟨n, 0, none⟩) 1 1)).run Tryz.prog ww = .ok (.string ⟨#[u]⟩) ww := by
 rw [run_convert_bytes_string ww 48 9 5 _ _ _ qk qk qk]
 rw [run_bytesToString ww ⟨n, 0, none⟩ 1 1 [(u.toNat : Int)] (by simp [loadCells, go_sem, h])]
 simp
 rfl
theorem mWritten (c : Int) (w : World) :
  Calls Tryz.prog 163 #[.int .u8 c] w fun e w' => e = .returned (.bool (decide (c = 9 ∨ 32 ≤ c))) ∧ w' = w := by
 by_cases h9 : c = 9
 ·rw [decide_eq_true (Or.inl h9)]
  subst h9
  go_enter func163, ntmps163
  go_wp2
  go_ret
  exact ⟨rfl, rfl⟩
 ·by_cases h32 : 32 ≤ c
  ·rw [decide_eq_true (Or.inr h32)]
   go_enter func163, ntmps163
   go_wp2
   all_goals
    go_ret
    exact ⟨by first | rfl | simp_all, rfl⟩
  ·rw [decide_eq_false qo]
   go_enter func163, ntmps163
   go_wp2
   all_goals
    go_ret
    exact ⟨by first | rfl | simp_all, rfl⟩
theorem iTake (r d : Nat) (p : Pg) (c : UInt8) (w : World) (h : RdAt w r d p) (hs : p.t.size ≤ 1000) (hk : p.pl ≤ p.t.size) :
  Calls Tryz.prog 305 #[.agg #[.pointer (some ⟨d, 0, none⟩)], .int .u8 c.toNat] w fun e w' => e = .returned (.int .i64 1) ∧ RdAt w' r d (insP p c) ∧ Upd [d] w w' := by
 have hIn : (inBl p).size ≤ 1000 := by unfold inBl; rw [ByteArray.size_extract]; omega
 have HN : Hid (∀ ww, RdAt ww r d p → qC 307 #[.agg #[.pointer (some ⟨d, 0, none⟩)]] ww (.string (inBl p))) := fun ww hh => iIndent r d p ww hh hs hk
 have HP1 : Hid (∀ ww, RdAt ww r d p → Calls Tryz.prog 306 #[.agg #[.pointer (some ⟨d, 0, none⟩)], .string (⟨#[10]⟩ ++ inBl p)] ww fun e w' => e = .returned (.tuple #[]) ∧ RdAt w' r d (putP p (⟨#[10]⟩ ++ inBl p)) ∧ Upd [d] ww w') := fun ww hh => iPut_any r d p _ ww hh hs (by rw [ByteArray.size_append]; have : (⟨#[10]⟩ : ByteArray).size = 1 := rfl; omega) hk
 have HP2 : Hid (∀ ww, RdAt ww r d p → Calls Tryz.prog 306 #[.agg #[.pointer (some ⟨d, 0, none⟩)], .string ⟨#[c]⟩] ww fun e w' => e = .returned (.tuple #[]) ∧ RdAt w' r d (putP p ⟨#[c]⟩) ∧ Upd [d] ww w') := fun ww hh => iPut_any r d p _ ww hh hs (by have : (⟨#[c]⟩ : ByteArray).size = 1 := rfl; omega) hk
 have HW : Hid (∀ ww, RdAt ww r d p → Calls Tryz.prog 308 #[.agg #[.pointer (some ⟨d, 0, none⟩)]] ww fun e w' => e = .returned (.tuple #[]) ∧ RdAt w' r d (wipeP p) ∧ Upd [d] ww w') := fun ww hh => iWipe_any r d p ww hh hs hk
 have HI : Hid (∀ ww, Calls Tryz.prog 163 #[.int .u8 c.toNat] ww fun e w' => e = .returned (.bool (decide ((c.toNat : Int) = 9 ∨ 32 ≤ (c.toNat : Int)))) ∧ w' = ww) := fun ww => mWritten _ ww
 have hcv := fun (ww : World) (n : Nat) (hh : ww.cell? ⟨n, 0, none⟩ = some (.int .u8 c.toNat)) => conv_oneB ww n c hh
 have H := h
 have hld := h.dk.lt
 unfold insP
 generalize hpp1 : putP p (⟨#[10]⟩ ++ inBl p) = q1 at *
 generalize hpp2 : putP p ⟨#[c]⟩ = q2 at *
 generalize wipeP p = q3 at *
 have fsz : ¬ 9223372036854775807 < (inBl p).size + 1 := by omega
 have fsz2 : ¬ 9223372036854775807 < 1 + (inBl p).size := by omega
 generalize inBl p = X at *
 by_cases h10 : c.toNat = 10
 ·rw [if_pos h10]
  have e10 : ((c.toNat : Nat) : Int) = 10 := by omega
  rw [e10]
  clear HP2 HI hcv
  go_enter func305, ntmps305
  have g0 : (w.alloc (.cells #[.pointer (some ⟨d, 0, none⟩)] 80)).cell? ⟨w.heap.size, 0, none⟩ = some (.pointer (some ⟨d, 0, none⟩)) := by simp
  go_wp2_with fail
  go_region_held3 (fun ww => ww.cell? ⟨w.heap.size, 0, none⟩ = some (.pointer (some ⟨d, 0, none⟩))) ((first | (go_simp; done) | ((repeat exact qM); done))) (first | (go_at_call 307; refine Calls.mono (HN.out _ qRd) ?_; rintro r1 w1 ⟨rfl, h1⟩; have hz1 := h1.size; (try simp at hz1); (try have ⟨hl1_0, hk1_0⟩ := qL w.heap.size w1.heap.size)) | (go_at_call 306; refine Calls.mono (HP1.out _ qRd) ?_; rintro r3 w3 ⟨rfl, h3, u3⟩; have hz3 := u3.size; (try simp at hz3); have a2 := u3.was (b := w.heap.size) (o := 0) (v := .pointer (some ⟨d, 0, none⟩)) qM qs))
  exact qt15
 ·rw [if_neg h10]
  have e10 : (((c.toNat : Nat) : Int) == 10) = false := by simp; omega
  by_cases h8 : c.toNat = 8 ∨ c.toNat = 127
  ·rw [if_pos h8]
   clear HP1 HP2 HI hcv HN
   rcases h8 with h8 | h8
   all_goals
    have e8 : (((c.toNat : Nat) : Int) = 8) ∨ (((c.toNat : Nat) : Int) = 127) := by omega
    rw [show ((c.toNat : Nat) : Int) = _ from congrArg Nat.cast h8]
    go_enter func305, ntmps305
    go_wp2_with fail
    refine Calls.mono (HW.out _ qRd) ?_
    rintro e w1 ⟨rfl, h1, u1⟩
    go_wp2
    go_ret
    refine ⟨rfl, ?_, ?_⟩
    ·repeat exact qRd
    ·repeat exact qU
  ·rw [if_neg h8]
   have e8 : (((c.toNat : Nat) : Int) == 8) = false := by simp; omega
   have e127 : (((c.toNat : Nat) : Int) == 127) = false := by simp; omega
   clear HP1 HN HW
   by_cases hw : c.toNat = 9 ∨ 32 ≤ c.toNat
   ·rw [if_pos hw]
    have HI2 : Hid (∀ ww, Calls Tryz.prog 163 #[.int .u8 c.toNat] ww fun e w' => e = .returned (.bool true) ∧ w' = ww) := by
     intro ww
     have := HI.out ww
     rw [decide_eq_true qo] at this
     exact this
    clear HI hw
    go_enter func305, ntmps305
    go_wp2_with fail
    refine (HI2.out _).mono ?_
    rintro e w' ⟨rfl, rfl⟩
    go_wp2_with fail
    refine Calls.mono (HP2.out _ qRd) ?_
    rintro e w1 ⟨rfl, h1, u1⟩
    exact qt15
   ·rw [if_neg hw]
    have HI2 : Hid (∀ ww, Calls Tryz.prog 163 #[.int .u8 c.toNat] ww fun e w' => e = .returned (.bool false) ∧ w' = ww) := by
     intro ww
     have := HI.out ww
     rw [decide_eq_false qo] at this
     exact this
    clear HI hw hcv
    go_enter func305, ntmps305
    go_wp2_with fail
    refine (HI2.out _).mono ?_
    rintro e w' ⟨rfl, rfl⟩
    exact qt15
structure Tri (w : World) (b : Nat) (s : ByteArray) (p : Int) (v : Bool) : Prop where
 c0 : w.cell? ⟨b, 0, none⟩ = some (.string s)
 c1 : w.cell? ⟨b, 1, none⟩ = some (.int .i64 p)
 c2 : w.cell? ⟨b, 2, none⟩ = some (.bool v)
 fz : ∀ o, w.frozen? ⟨b, o, none⟩ = false
 lt : b < w.heap.size
theorem Tri.of_block {w w' : World} {b : Nat} {s : ByteArray} {p : Int} {v : Bool} (h : Tri w b s p v) (hb : w'.heap[b]? = w.heap[b]?) (hz : w.heap.size ≤ w'.heap.size) : Tri w' b s p v := by
 have hc : ∀ o, w'.cell? ⟨b, o, none⟩ = w.cell? ⟨b, o, none⟩ := fun o => World.cell?_of_block (w := w) hb
 have hf : ∀ o, w'.frozen? ⟨b, o, none⟩ = w.frozen? ⟨b, o, none⟩ := fun o => World.frozen?_of_block (w := w) hb
 exact ⟨(hc _).trans h.c0, (hc _).trans h.c1, (hc _).trans h.c2, fun o => (hf o).trans (h.fz o), Nat.lt_of_lt_of_le h.lt hz⟩
theorem Tri.below {w w' : World} {b : Nat} {s : ByteArray} {p : Int} {v : Bool} (h : Tri w b s p v) (hb : Below w.heap.size w w') : Tri w' b s p v := h.of_block (hb.block b h.lt) hb.size
theorem Tri.alloc {w : World} {b : Nat} {s : ByteArray} {p : Int} {v : Bool} (h : Tri w b s p v) (o : Obj) : Tri (w.alloc o) b s p v := h.below ((Below.refl _ _).alloc (Nat.le_refl _) _)
theorem Tri.drewN {w : World} {b : Nat} {s : ByteArray} {p : Int} {v : Bool} (h : Tri w b s p v) (k : Nat) : Tri (w.drewN k) b s p v := h.below (below_drewN (Below.refl _ _) _)
theorem Tri.drew {w : World} {b : Nat} {s : ByteArray} {p : Int} {v : Bool} (h : Tri w b s p v) : Tri w.drew b s p v := h.below (Below.refl _ _).drew
theorem Tri.other {w : World} {b : Nat} {s : ByteArray} {p : Int} {v : Bool} (h : Tri w b s p v) {q : Addr} (hp : b ≠ q.block) (u : Value) : Tri (w.setCell q u) b s p v :=
 h.of_block (Below.heap_setCell _ _ _ _ hp) (by simp [World.setCell])
theorem Tri.new (w : World) (s : ByteArray) (p : Int) (v : Bool) (t : TypeId) : Tri (w.alloc (.cells #[.string s, .int .i64 p, .bool v] t)) w.heap.size s p v :=
 ⟨by simp, by simp, by simp, by simp, by simp⟩
structure Tre (w : World) (b : Nat) (s p : Int) (v : Bool) : Prop where
 c0 : w.cell? ⟨b, 0, none⟩ = some (.int .i64 s)
 c1 : w.cell? ⟨b, 1, none⟩ = some (.int .i64 p)
 c2 : w.cell? ⟨b, 2, none⟩ = some (.bool v)
 fz : ∀ o, w.frozen? ⟨b, o, none⟩ = false
 lt : b < w.heap.size
theorem Tre.of_block {w w' : World} {b : Nat} {s p : Int} {v : Bool} (h : Tre w b s p v) (hb : w'.heap[b]? = w.heap[b]?) (hz : w.heap.size ≤ w'.heap.size) : Tre w' b s p v := by
 have hc : ∀ o, w'.cell? ⟨b, o, none⟩ = w.cell? ⟨b, o, none⟩ := fun o => World.cell?_of_block (w := w) hb
 have hf : ∀ o, w'.frozen? ⟨b, o, none⟩ = w.frozen? ⟨b, o, none⟩ := fun o => World.frozen?_of_block (w := w) hb
 exact ⟨(hc _).trans h.c0, (hc _).trans h.c1, (hc _).trans h.c2, fun o => (hf o).trans (h.fz o), Nat.lt_of_lt_of_le h.lt hz⟩
theorem Tre.below {w w' : World} {b : Nat} {s p : Int} {v : Bool} (h : Tre w b s p v) (hb : Below w.heap.size w w') : Tre w' b s p v := h.of_block (hb.block b h.lt) hb.size
theorem Tre.alloc {w : World} {b : Nat} {s p : Int} {v : Bool} (h : Tre w b s p v) (o : Obj) : Tre (w.alloc o) b s p v := h.below ((Below.refl _ _).alloc (Nat.le_refl _) _)
theorem Tre.drewN {w : World} {b : Nat} {s p : Int} {v : Bool} (h : Tre w b s p v) (k : Nat) : Tre (w.drewN k) b s p v := h.below (below_drewN (Below.refl _ _) _)
theorem Tre.drew {w : World} {b : Nat} {s p : Int} {v : Bool} (h : Tre w b s p v) : Tre w.drew b s p v := h.below (Below.refl _ _).drew
theorem Tre.other {w : World} {b : Nat} {s p : Int} {v : Bool} (h : Tre w b s p v) {q : Addr} (hp : b ≠ q.block) (u : Value) : Tre (w.setCell q u) b s p v :=
 h.of_block (Below.heap_setCell _ _ _ _ hp) (by simp [World.setCell])
theorem Tre.new (w : World) (s p : Int) (v : Bool) (t : TypeId) : Tre (w.alloc (.cells #[.int .i64 s, .int .i64 p, .bool v] t)) w.heap.size s p v :=
 ⟨by simp, by simp, by simp, by simp, by simp⟩
theorem tRun_ex (s : ByteArray) (k : Nat) (g : Bool) (hs : s.size ≤ 1000) (hk : k ≤ s.size) :
  ∃ i j : Nat, i ≤ k ∧ k ≤ j ∧ j ≤ s.size ∧ ∀ ww, qC 256 #[.string s, .int .i64 k, .bool g] ww (.agg #[.int .i64 (i), .int .i64 (j)]) := by
 by_cases hn : k < s.size ∧ bt s k ≠ 10
 ·exact ⟨runB s k g, wrun s k g, runB_le s k g, wrun_ge s k g, wrun_le hk, fun ww => tRun_any s k k g ww hs rfl hn.1 hn.2⟩
 ·exact ⟨k, k, Nat.le_refl _, Nat.le_refl _, hk, fun ww => tRun_none s k k g ww hs rfl hk (fun h => by
   by_cases e : bt s k = 10
   ·exact e
   ·exact absurd ⟨h, e⟩ hn)⟩
theorem oPair (s : ByteArray) (p a b : Int) (wh : Bool) (w : World) (ha : -5000 ≤ a ∧ a ≤ 5000) (hb : -5000 ≤ b ∧ b ≤ 5000) :
  qC 261 #[.agg #[.string s, .int .i64 p, .bool wh], .agg #[.int .i64 (a), .int .i64 (b)]] w (.agg #[.int .i64 (if wh then a else a + 1), .int .i64 (if wh then b else b - 1), .bool false]) := by
 have hwr1 : IntKind.i64.wrap (a + 1) = a + 1 := by rw [IntKind.wrap_i64]; omega
 have hwr2 : IntKind.i64.wrap (b - 1) = b - 1 := by rw [IntKind.wrap_i64]; omega
 cases wh
 ·go_enter func261, ntmps261
  go_wp2
  refine bodyPost_ret (v := .agg #[.int .i64 (a + 1), .int .i64 (b - 1), .bool false]) (by simp [results, results261, go_sem]) rfl ⟨rfl, ?_⟩
  exact qB
 ·go_enter func261, ntmps261
  go_wp2
  refine bodyPost_ret (v := .agg #[.int .i64 a, .int .i64 b, .bool false]) (by simp [results, results261, go_sem]) rfl ⟨rfl, ?_⟩
  exact qB
theorem oBlanks_none (s : ByteArray) (p a : Int) (wh : Bool) (w : World) :
  qC 257 #[.agg #[.string s, .int .i64 p, .bool wh], .agg #[.int .i64 (a), .int .i64 (a)]] w (.bool false) := by
 have HE : qH 185 #[.agg #[.int .i64 (a), .int .i64 (a)]] (.bool true) := by
  intro ww
  have := tIsEmpty_any a a ww
  rw [show (a == a) = true by simp] at this
  exact this
 go_enter func257, ntmps257
 go_wp2_with fail
 refine (HE.out _).mono ?_
 rintro e w1 ⟨rfl, h1⟩
 obtain ⟨hc1, hf1, hz1⟩ := qb h1
 try simp at hz1
 go_wp2
 refine bodyPost_ret (v := .bool false) (by simp [results, results257, go_sem]) rfl ⟨rfl, ?_⟩
 exact qB
theorem oBlanks_some (s : ByteArray) (p : Int) (i j : Nat) (wh : Bool) (w : World) (hij : i < j) (hj : j ≤ s.size) :
  qC 257 #[.agg #[.string s, .int .i64 p, .bool wh], .agg #[.int .i64 (i), .int .i64 (j)]] w (.bool (cls ((((s[i]'(by omega)).toNat : Nat) : Int)) false == 0)) := by
 have HE : qH 185 #[.agg #[.int .i64 (i), .int .i64 (j)]] (.bool false) := by
  intro ww
  have := tIsEmpty_any i j ww
  rw [show ((i : Int) == j) = false by simp; omega] at this
  exact this
 have hi : i < s.size := by omega
 have HC : Hid (∀ ww, Calls Tryz.prog 225 #[.int .u8 ((((s[i]'hi).toNat : Nat) : Int)), .bool false] ww fun e w' => e = .returned (.int .i64 (cls ((((s[i]'hi).toNat : Nat) : Int)) false)) ∧ w' = ww) := fun ww => tClass_any _ false ww
 generalize cls ((((s[i]'(by omega)).toNat : Nat) : Int)) false = X at *
 have i1 : ((i : Nat) : Int) < ((s.size : Nat) : Int) := by omega
 go_enter func257, ntmps257
 go_wp2_with fail
 refine (HE.out _).mono ?_
 rintro e w1 ⟨rfl, h1⟩
 obtain ⟨hc1, hf1, hz1⟩ := qb h1
 try simp at hz1
 have z1 : w.heap.size < w1.heap.size := by omega
 go_wp2_with fail
 refine (HC.out _).mono ?_
 rintro e w' ⟨rfl, rfl⟩
 go_wp2
 refine bodyPost_ret (v := .bool (X == 0)) (by simp [results, results257, go_sem]) rfl ⟨rfl, ?_⟩
 exact qB
theorem oBlanks_ex (s : ByteArray) (p : Int) (i j : Nat) (wh : Bool) (hij : i ≤ j) (hj : j ≤ s.size) :
  ∃ B : Bool, ∀ ww, qC 257 #[.agg #[.string s, .int .i64 p, .bool wh], .agg #[.int .i64 (i), .int .i64 (j)]] ww (.bool B) := by
 by_cases h : i = j
 ·subst h
  exact ⟨false, fun ww => oBlanks_none s p i wh ww⟩
 ·exact ⟨_, fun ww => oBlanks_some s p i j wh ww qo hj⟩
theorem qTi {w : World} {b : Nat} {s : ByteArray} {p : Int} {v : Bool} (h : Tri w b s p v := by repeat (with_reducible first | assumption | refine Tri.other ?_ (by first | omega | (simp <;> omega)) _ | refine Tri.alloc ?_ _ | refine Tri.drewN ?_ _ | refine Tri.drew ?_ | refine Tri.below ?_ (by with_reducible assumption))) : Tri w b s p v := h
theorem qTe {w : World} {b : Nat} {s p : Int} {v : Bool} (h : Tre w b s p v := by repeat (with_reducible first | assumption | refine Tre.other ?_ (by first | omega | (simp <;> omega)) _ | refine Tre.alloc ?_ _ | refine Tre.drewN ?_ _ | refine Tre.drew ?_ | refine Tre.below ?_ (by with_reducible assumption))) : Tre w b s p v := h
theorem tJoin_nat (a b c d : Nat) (w : World) :
  qC 196 #[.agg #[.int .i64 (a), .int .i64 (b)], .agg #[.int .i64 (c), .int .i64 (d)]] w (.agg #[.int .i64 (((min a c : Nat) : Int)), .int .i64 (((max b d : Nat) : Int))]) := by
 have := tJoin_any a b c d w
 rw [show min (a : Int) c = ((min a c : Nat) : Int) by omega, show max (b : Int) d = ((max b d : Nat) : Int) by omega] at this
 exact this
theorem tEmpty_eq (a : Int) (w : World) :
  qC 185 #[.agg #[.int .i64 (a), .int .i64 (a)]] w (.bool true) := by
 have := tIsEmpty_any a a w
 rw [show (a == a) = true by simp] at this
 exact this
theorem tEmpty_ne (a b : Nat) (w : World) (h : a ≠ b) :
  qC 185 #[.agg #[.int .i64 (a), .int .i64 (b)]] w (.bool false) := by
 have := tIsEmpty_any a b w
 rw [show ((a : Int) == b) = false by simp; omega] at this
 exact this
theorem qt11 {P : Prop} (h : P := by
  clear he
  go_enter func259, ntmps259
  have G : Tri (((w.alloc (.cells #[.string s, .int .i64 p, .bool wh] 213)).alloc (.cells #[.int .i64 i, .int .i64 j] 128)).alloc (.cells #[.int .i64 0, .int .i64 0] 128)) w.heap.size s p wh := Tri.alloc (Tri.alloc (Tri.new _ _ _ _ _) _) _
  have T : Two (((w.alloc (.cells #[.string s, .int .i64 p, .bool wh] 213)).alloc (.cells #[.int .i64 i, .int .i64 j] 128)).alloc (.cells #[.int .i64 0, .int .i64 0] 128)) (w.heap.size + 1) i j := Two.alloc (by have := Two.new (w.alloc (.cells #[.string s, .int .i64 p, .bool wh] 213)) i j 128; simpa using this) _
  have R : Two (((w.alloc (.cells #[.string s, .int .i64 p, .bool wh] 213)).alloc (.cells #[.int .i64 i, .int .i64 j] 128)).alloc (.cells #[.int .i64 0, .int .i64 0] 128)) (w.heap.size + 1 + 1) 0 0 := qN
  go_wp2_with fail
  refine (HR1.out _).mono ?_
  rintro r1 w1 ⟨rfl, h1⟩
  obtain ⟨hc1, hf1, hz1⟩ := qb h1
  (try simp at hz1)
  have G1 : Tri w1 (w.heap.size) (s) (p) (wh) := qTi
  have ⟨G1_0, G1_1, G1_2, G1_z, G1_l⟩ := G1
  have T1 : Two w1 (w.heap.size + 1) (i) (j) := qTw
  have ⟨T1_0, T1_1, T1_z, T1_l⟩ := T1
  have R1 : Two w1 (w.heap.size + 1 + 1) (0) (0) := qTw
  have ⟨R1_0, R1_1, R1_z, R1_l⟩ := R1
  clear hc1 hf1
  have E : Two (w1.alloc (.cells #[.int .i64 c, .int .i64 d] 128)) w1.heap.size c d := Two.new _ _ _ _
  go_wp2_with fail
  refine (HB1.out _).mono ?_
  rintro r2 w2 ⟨rfl, h2⟩
  obtain ⟨hc2, hf2, hz2⟩ := qb h2
  (try simp at hz2)
  have G2 : Tri w2 (w.heap.size) (s) (p) (wh) := qTi
  have ⟨G2_0, G2_1, G2_2, G2_z, G2_l⟩ := G2
  have T2 : Two w2 (w.heap.size + 1) (i) (j) := qTw
  have ⟨T2_0, T2_1, T2_z, T2_l⟩ := T2
  have R2 : Two w2 (w.heap.size + 1 + 1) (0) (0) := qTw
  have ⟨R2_0, R2_1, R2_z, R2_l⟩ := R2
  have E2 : Two w2 (w1.heap.size) (c) (d) := qTw
  have ⟨E2_0, E2_1, E2_z, E2_l⟩ := E2
  clear hc2 hf2
  go_wp2_with fail
  refine (HR2.out _).mono ?_
  rintro r3 w3 ⟨rfl, h3⟩
  obtain ⟨hc3, hf3, hz3⟩ := qb h3
  (try simp at hz3)
  have G3 : Tri w3 (w.heap.size) (s) (p) (wh) := qTi
  have ⟨G3_0, G3_1, G3_2, G3_z, G3_l⟩ := G3
  have T3 : Two w3 (w.heap.size + 1) (i) (j) := qTw
  have ⟨T3_0, T3_1, T3_z, T3_l⟩ := T3
  have R3 : Two w3 (w.heap.size + 1 + 1) (0) (0) := qTw
  have ⟨R3_0, R3_1, R3_z, R3_l⟩ := R3
  clear hc3 hf3
  have E2 : Two (w3.alloc (.cells #[.int .i64 c', .int .i64 d'] 128)) w3.heap.size c' d' := Two.new _ _ _ _
  go_wp2_with fail
  refine (HB2.out _).mono ?_
  rintro r4 w4 ⟨rfl, h4⟩
  obtain ⟨hc4, hf4, hz4⟩ := qb h4
  (try simp at hz4)
  have G4 : Tri w4 (w.heap.size) (s) (p) (wh) := qTi
  have ⟨G4_0, G4_1, G4_2, G4_z, G4_l⟩ := G4
  have T4 : Two w4 (w.heap.size + 1) (i) (j) := qTw
  have ⟨T4_0, T4_1, T4_z, T4_l⟩ := T4
  have R4 : Two w4 (w.heap.size + 1 + 1) (0) (0) := qTw
  have ⟨R4_0, R4_1, R4_z, R4_l⟩ := R4
  have E24 : Two w4 (w3.heap.size) (c') (d') := qTw
  have ⟨E24_0, E24_1, E24_z, E24_l⟩ := E24
  clear hc4 hf4
  go_wp2_with fail
  refine (HJ.out _).mono ?_
  rintro r5 w5 ⟨rfl, h5⟩
  obtain ⟨hc5, hf5, hz5⟩ := qb h5
  (try simp at hz5)
  have G5 : Tri w5 (w.heap.size) (s) (p) (wh) := qTi
  have ⟨G5_0, G5_1, G5_2, G5_z, G5_l⟩ := G5
  have T5 : Two w5 (w.heap.size + 1) (i) (j) := qTw
  have ⟨T5_0, T5_1, T5_z, T5_l⟩ := T5
  have R5 : Two w5 (w.heap.size + 1 + 1) (0) (0) := qTw
  have ⟨R5_0, R5_1, R5_z, R5_l⟩ := R5
  have E25 : Two w5 (w3.heap.size) (c') (d') := qTw
  have ⟨E25_0, E25_1, E25_z, E25_l⟩ := E25
  clear hc5 hf5
  go_wp2
  exact qV (.agg #[.int .i64 (U), .int .i64 (V)]) (by simp [results, results259, go_sem, R5_0, R5_1, R5_z, R5_l, T5_0, T5_1]) rfl
 ) : P := h
theorem qt13 {P : Prop} (h : P := by
  clear he
  go_enter func259, ntmps259
  have G : Tri (((w.alloc (.cells #[.string s, .int .i64 p, .bool wh] 213)).alloc (.cells #[.int .i64 i, .int .i64 j] 128)).alloc (.cells #[.int .i64 0, .int .i64 0] 128)) w.heap.size s p wh := Tri.alloc (Tri.alloc (Tri.new _ _ _ _ _) _) _
  have T : Two (((w.alloc (.cells #[.string s, .int .i64 p, .bool wh] 213)).alloc (.cells #[.int .i64 i, .int .i64 j] 128)).alloc (.cells #[.int .i64 0, .int .i64 0] 128)) (w.heap.size + 1) i j := Two.alloc (by have := Two.new (w.alloc (.cells #[.string s, .int .i64 p, .bool wh] 213)) i j 128; simpa using this) _
  have R : Two (((w.alloc (.cells #[.string s, .int .i64 p, .bool wh] 213)).alloc (.cells #[.int .i64 i, .int .i64 j] 128)).alloc (.cells #[.int .i64 0, .int .i64 0] 128)) (w.heap.size + 1 + 1) 0 0 := qN
  go_wp2_with fail
  refine (HR1.out _).mono ?_
  rintro r1 w1 ⟨rfl, h1⟩
  obtain ⟨hc1, hf1, hz1⟩ := qb h1
  (try simp at hz1)
  have G1 : Tri w1 (w.heap.size) (s) (p) (wh) := qTi
  have ⟨G1_0, G1_1, G1_2, G1_z, G1_l⟩ := G1
  have T1 : Two w1 (w.heap.size + 1) (i) (j) := qTw
  have ⟨T1_0, T1_1, T1_z, T1_l⟩ := T1
  have R1 : Two w1 (w.heap.size + 1 + 1) (0) (0) := qTw
  have ⟨R1_0, R1_1, R1_z, R1_l⟩ := R1
  clear hc1 hf1
  have E : Two (w1.alloc (.cells #[.int .i64 c, .int .i64 d] 128)) w1.heap.size c d := Two.new _ _ _ _
  go_wp2_with fail
  refine (HB1.out _).mono ?_
  rintro r2 w2 ⟨rfl, h2⟩
  obtain ⟨hc2, hf2, hz2⟩ := qb h2
  (try simp at hz2)
  have G2 : Tri w2 (w.heap.size) (s) (p) (wh) := qTi
  have ⟨G2_0, G2_1, G2_2, G2_z, G2_l⟩ := G2
  have T2 : Two w2 (w.heap.size + 1) (i) (j) := qTw
  have ⟨T2_0, T2_1, T2_z, T2_l⟩ := T2
  have R2 : Two w2 (w.heap.size + 1 + 1) (0) (0) := qTw
  have ⟨R2_0, R2_1, R2_z, R2_l⟩ := R2
  have E2 : Two w2 (w1.heap.size) (c) (d) := qTw
  have ⟨E2_0, E2_1, E2_z, E2_l⟩ := E2
  clear hc2 hf2
  go_wp2_with fail
  refine (HR2.out _).mono ?_
  rintro r3 w3 ⟨rfl, h3⟩
  obtain ⟨hc3, hf3, hz3⟩ := qb h3
  (try simp at hz3)
  have G3 : Tri w3 (w.heap.size) (s) (p) (wh) := qTi
  have ⟨G3_0, G3_1, G3_2, G3_z, G3_l⟩ := G3
  have T3 : Two w3 (w.heap.size + 1) (i) (j) := qTw
  have ⟨T3_0, T3_1, T3_z, T3_l⟩ := T3
  have R3 : Two w3 (w.heap.size + 1 + 1) (0) (0) := qTw
  have ⟨R3_0, R3_1, R3_z, R3_l⟩ := R3
  clear hc3 hf3
  have E2 : Two (w3.alloc (.cells #[.int .i64 c', .int .i64 d'] 128)) w3.heap.size c' d' := Two.new _ _ _ _
  go_wp2_with fail
  refine (HB2.out _).mono ?_
  rintro r4 w4 ⟨rfl, h4⟩
  obtain ⟨hc4, hf4, hz4⟩ := qb h4
  (try simp at hz4)
  have G4 : Tri w4 (w.heap.size) (s) (p) (wh) := qTi
  have ⟨G4_0, G4_1, G4_2, G4_z, G4_l⟩ := G4
  have T4 : Two w4 (w.heap.size + 1) (i) (j) := qTw
  have ⟨T4_0, T4_1, T4_z, T4_l⟩ := T4
  have R4 : Two w4 (w.heap.size + 1 + 1) (0) (0) := qTw
  have ⟨R4_0, R4_1, R4_z, R4_l⟩ := R4
  have E24 : Two w4 (w3.heap.size) (c') (d') := qTw
  have ⟨E24_0, E24_1, E24_z, E24_l⟩ := E24
  clear hc4 hf4
  go_wp2
  exact qV (.agg #[.int .i64 (i), .int .i64 (j)]) (by simp [results, results259, go_sem, R4_0, R4_1, R4_z, R4_l, T4_0, T4_1]) rfl
 ) : P := h
theorem oWordB (s : ByteArray) (p : Int) (i j : Nat) (wh g : Bool) (hs : s.size ≤ 1000) (hij : i ≤ j) (hj : j ≤ s.size) :
  ∃ a b : Nat, a ≤ b ∧ b ≤ s.size ∧ ∀ ww, qC 259 #[.agg #[.string s, .int .i64 p, .bool wh], .agg #[.int .i64 (i), .int .i64 (j)], .bool g] ww (.agg #[.int .i64 (a), .int .i64 (b)]) := by
 obtain ⟨c, d, c1, c2, c3, HR1⟩ := tRun_ex s j g hs hj
 obtain ⟨c', d', c1', c2', c3', HR2⟩ := tRun_ex s (i - 1) g hs qo
 obtain ⟨B1, HB1⟩ := oBlanks_ex s p c d wh qo c3
 obtain ⟨B2, HB2⟩ := oBlanks_ex s p c' d' wh qo c3'
 have hwr : IntKind.i64.wrap ((i : Int) - 1) = (i : Int) - 1 := by rw [IntKind.wrap_i64]; omega
 have HR1 : qH 256 #[.string s, .int .i64 j, .bool g] (.agg #[.int .i64 (c), .int .i64 (d)]) := HR1
 cases B1 with
 | true =>
  have HB1 : qH 257 #[.agg #[.string s, .int .i64 p, .bool wh], .agg #[.int .i64 (c), .int .i64 (d)]] (.bool true) := HB1
  have HJ : qH 196 #[.agg #[.int .i64 (i), .int .i64 (j)], .agg #[.int .i64 (c), .int .i64 (d)]] (.agg #[.int .i64 (((min i c : Nat) : Int)), .int .i64 (((max j d : Nat) : Int))]) := fun ww => tJoin_nat i j c d ww
  refine ⟨min i c, max j d, by omega, by omega, fun w => ?_⟩
  generalize ((min i c : Nat) : Int) = U at *
  generalize ((max j d : Nat) : Int) = V at *
  clear HR2 HB2 c1 c2 c3 c1' c2' c3'
  go_enter func259, ntmps259
  have G : Tri (((w.alloc (.cells #[.string s, .int .i64 p, .bool wh] 213)).alloc (.cells #[.int .i64 i, .int .i64 j] 128)).alloc (.cells #[.int .i64 0, .int .i64 0] 128)) w.heap.size s p wh := Tri.alloc (Tri.alloc (Tri.new _ _ _ _ _) _) _
  have T : Two (((w.alloc (.cells #[.string s, .int .i64 p, .bool wh] 213)).alloc (.cells #[.int .i64 i, .int .i64 j] 128)).alloc (.cells #[.int .i64 0, .int .i64 0] 128)) (w.heap.size + 1) i j := Two.alloc (by have := Two.new (w.alloc (.cells #[.string s, .int .i64 p, .bool wh] 213)) i j 128; simpa using this) _
  have R : Two (((w.alloc (.cells #[.string s, .int .i64 p, .bool wh] 213)).alloc (.cells #[.int .i64 i, .int .i64 j] 128)).alloc (.cells #[.int .i64 0, .int .i64 0] 128)) (w.heap.size + 1 + 1) 0 0 := qN
  go_wp2_with fail
  refine (HR1.out _).mono ?_
  rintro r1 w1 ⟨rfl, h1⟩
  obtain ⟨hc1, hf1, hz1⟩ := qb h1
  (try simp at hz1)
  have G1 : Tri w1 (w.heap.size) (s) (p) (wh) := qTi
  have ⟨G1_0, G1_1, G1_2, G1_z, G1_l⟩ := G1
  have T1 : Two w1 (w.heap.size + 1) (i) (j) := qTw
  have ⟨T1_0, T1_1, T1_z, T1_l⟩ := T1
  have R1 : Two w1 (w.heap.size + 1 + 1) (0) (0) := qTw
  have ⟨R1_0, R1_1, R1_z, R1_l⟩ := R1
  clear hc1 hf1
  have E : Two (w1.alloc (.cells #[.int .i64 c, .int .i64 d] 128)) w1.heap.size c d := Two.new _ _ _ _
  go_wp2_with fail
  refine (HB1.out _).mono ?_
  rintro r2 w2 ⟨rfl, h2⟩
  obtain ⟨hc2, hf2, hz2⟩ := qb h2
  (try simp at hz2)
  have G2 : Tri w2 (w.heap.size) (s) (p) (wh) := qTi
  have ⟨G2_0, G2_1, G2_2, G2_z, G2_l⟩ := G2
  have T2 : Two w2 (w.heap.size + 1) (i) (j) := qTw
  have ⟨T2_0, T2_1, T2_z, T2_l⟩ := T2
  have R2 : Two w2 (w.heap.size + 1 + 1) (0) (0) := qTw
  have ⟨R2_0, R2_1, R2_z, R2_l⟩ := R2
  have E2 : Two w2 (w1.heap.size) (c) (d) := qTw
  have ⟨E2_0, E2_1, E2_z, E2_l⟩ := E2
  clear hc2 hf2
  go_wp2_with fail
  refine (HJ.out _).mono ?_
  rintro r3 w3 ⟨rfl, h3⟩
  obtain ⟨hc3, hf3, hz3⟩ := qb h3
  (try simp at hz3)
  have G3 : Tri w3 (w.heap.size) (s) (p) (wh) := qTi
  have ⟨G3_0, G3_1, G3_2, G3_z, G3_l⟩ := G3
  have T3 : Two w3 (w.heap.size + 1) (i) (j) := qTw
  have ⟨T3_0, T3_1, T3_z, T3_l⟩ := T3
  have R3 : Two w3 (w.heap.size + 1 + 1) (0) (0) := qTw
  have ⟨R3_0, R3_1, R3_z, R3_l⟩ := R3
  have E3 : Two w3 (w1.heap.size) (c) (d) := qTw
  have ⟨E3_0, E3_1, E3_z, E3_l⟩ := E3
  clear hc3 hf3
  go_wp2
  exact qV (.agg #[.int .i64 (U), .int .i64 (V)]) (by simp [results, results259, go_sem, R3_0, R3_1, R3_z, R3_l, T3_0, T3_1]) rfl
 | false =>
  have HB1 : qH 257 #[.agg #[.string s, .int .i64 p, .bool wh], .agg #[.int .i64 (c), .int .i64 (d)]] (.bool false) := HB1
  have hcase : (0 < i ∧ (((i - 1 : Nat)) : Int) = (i : Int) - 1 ∧ ¬ (i : Int) - 1 < 0) ∨ (((i - 1 : Nat) : Int) = 0 ∧ (i : Int) - 1 < 0) := by omega
  have hx0 : i = 0 → True := fun _ => trivial
  cases B2 with
  | true =>
   have HB2 : qH 257 #[.agg #[.string s, .int .i64 p, .bool wh], .agg #[.int .i64 (c'), .int .i64 (d')]] (.bool true) := HB2
   have HJ : qH 196 #[.agg #[.int .i64 (i), .int .i64 (j)], .agg #[.int .i64 (c'), .int .i64 (d')]] (.agg #[.int .i64 (((min i c' : Nat) : Int)), .int .i64 (((max j d' : Nat) : Int))]) := fun ww => tJoin_nat i j c' d' ww
   refine ⟨min i c', max j d', by omega, by omega, fun w => ?_⟩
   generalize ((min i c' : Nat) : Int) = U at *
   generalize ((max j d' : Nat) : Int) = V at *
   clear c1 c2 c3 c1' c2' c3' hij hx0
   rcases hcase with ⟨hi, he, hne⟩ | ⟨he, hne⟩
   ·have HR2 : Hid (∀ ww, qC 256 #[.string s, .int .i64 ((i : Int) - 1), .bool g] ww (.agg #[.int .i64 (c'), .int .i64 (d')])) := by
     rw [← he]; exact HR2
    exact qt11
   ·have HR2 : Hid (∀ ww, qC 256 #[.string s, .int .i64 0, .bool g] ww (.agg #[.int .i64 (c'), .int .i64 (d')])) := by
     rw [he] at HR2; exact HR2
    exact qt11
  | false =>
   have HB2 : qH 257 #[.agg #[.string s, .int .i64 p, .bool wh], .agg #[.int .i64 (c'), .int .i64 (d')]] (.bool false) := HB2
   refine ⟨i, j, by omega, by omega, fun w => ?_⟩
   clear c1 c2 c3 c1' c2' c3' hij hx0
   rcases hcase with ⟨hi, he, hne⟩ | ⟨he, hne⟩
   ·have HR2 : Hid (∀ ww, qC 256 #[.string s, .int .i64 ((i : Int) - 1), .bool g] ww (.agg #[.int .i64 (c'), .int .i64 (d')])) := by
     rw [← he]; exact HR2
    exact qt13
   ·have HR2 : Hid (∀ ww, qC 256 #[.string s, .int .i64 0, .bool g] ww (.agg #[.int .i64 (c'), .int .i64 (d')])) := by
     rw [he] at HR2; exact HR2
    exact qt13
theorem oBlanksW (s : ByteArray) (p : Int) (i j : Nat) (wh g : Bool) (hs : s.size ≤ 1000) (hij : i ≤ j) (hj : j ≤ s.size) :
  ∃ (a b : Nat) (is : Bool), a ≤ b ∧ b ≤ s.size ∧ ∀ ww, qC 258 #[.agg #[.string s, .int .i64 p, .bool wh], .agg #[.int .i64 (i), .int .i64 (j)], .bool g] ww (.tuple #[.agg #[.int .i64 a, .int .i64 b, .bool false], .bool is]) := by
 obtain ⟨c, d, c1, c2, c3, HR1⟩ := tRun_ex s j g hs hj
 have HR1 : qH 256 #[.string s, .int .i64 j, .bool g] (.agg #[.int .i64 (c), .int .i64 (d)]) := HR1
 by_cases hcd : c = d
 ·subst hcd
  have HE : qH 185 #[.agg #[.int .i64 (c), .int .i64 (c)]] (.bool true) := fun ww => tEmpty_eq c ww
  refine ⟨0, 0, false, Nat.le_refl _, Nat.zero_le _, fun w => ?_⟩
  go_enter func258, ntmps258
  have G : Tri (((w.alloc (.cells #[.string s, .int .i64 p, .bool wh] 213)).alloc (.cells #[.int .i64 i, .int .i64 j] 128)).alloc (.cells #[.int .i64 0, .int .i64 0, .bool false] 186)) w.heap.size s p wh := Tri.alloc (Tri.alloc (Tri.new _ _ _ _ _) _) _
  have T : Two (((w.alloc (.cells #[.string s, .int .i64 p, .bool wh] 213)).alloc (.cells #[.int .i64 i, .int .i64 j] 128)).alloc (.cells #[.int .i64 0, .int .i64 0, .bool false] 186)) (w.heap.size + 1) i j := Two.alloc (by have := Two.new (w.alloc (.cells #[.string s, .int .i64 p, .bool wh] 213)) i j 128; simpa using this) _
  have Q : Tre (((w.alloc (.cells #[.string s, .int .i64 p, .bool wh] 213)).alloc (.cells #[.int .i64 i, .int .i64 j] 128)).alloc (.cells #[.int .i64 0, .int .i64 0, .bool false] 186)) (w.heap.size + 1 + 1) 0 0 false := by have := Tre.new ((w.alloc (.cells #[.string s, .int .i64 p, .bool wh] 213)).alloc (.cells #[.int .i64 i, .int .i64 j] 128)) 0 0 false 186; simpa using this
  go_wp2_with fail
  refine (HR1.out _).mono ?_
  rintro r1 w1 ⟨rfl, h1⟩
  obtain ⟨hc1, hf1, hz1⟩ := qb h1
  (try simp at hz1)
  have G1 : Tri w1 (w.heap.size) (s) (p) (wh) := qTi
  have ⟨G1_0, G1_1, G1_2, G1_z, G1_l⟩ := G1
  have T1 : Two w1 (w.heap.size + 1) (i) (j) := qTw
  have ⟨T1_0, T1_1, T1_z, T1_l⟩ := T1
  have Q1 : Tre w1 (w.heap.size + 1 + 1) (0) (0) (false) := qTe
  have ⟨Q1_0, Q1_1, Q1_2, Q1_z, Q1_l⟩ := Q1
  clear hc1 hf1
  have E : Two (w1.alloc (.cells #[.int .i64 c, .int .i64 c] 128)) w1.heap.size c c := Two.new _ _ _ _
  go_wp2_with fail
  refine (HE.out _).mono ?_
  rintro r2 w2 ⟨rfl, h2⟩
  obtain ⟨hc2, hf2, hz2⟩ := qb h2
  (try simp at hz2)
  have G2 : Tri w2 (w.heap.size) (s) (p) (wh) := qTi
  have ⟨G2_0, G2_1, G2_2, G2_z, G2_l⟩ := G2
  have T2 : Two w2 (w.heap.size + 1) (i) (j) := qTw
  have ⟨T2_0, T2_1, T2_z, T2_l⟩ := T2
  have Q2 : Tre w2 (w.heap.size + 1 + 1) (0) (0) (false) := qTe
  have ⟨Q2_0, Q2_1, Q2_2, Q2_z, Q2_l⟩ := Q2
  have E2 : Two w2 (w1.heap.size) (c) (c) := qTw
  have ⟨E2_0, E2_1, E2_z, E2_l⟩ := E2
  clear hc2 hf2
  go_wp2
  exact qV (.tuple #[.agg #[.int .i64 0, .int .i64 0, .bool false], .bool false]) (by simp [results, results258, go_sem, Q2_0, Q2_1, Q2_2, Q2_z, Q2_l]) rfl
 ·have HE : qH 185 #[.agg #[.int .i64 (c), .int .i64 (d)]] (.bool false) := fun ww => tEmpty_ne c d ww hcd
  have HJ : qH 196 #[.agg #[.int .i64 (i), .int .i64 (j)], .agg #[.int .i64 (c), .int .i64 (d)]] (.agg #[.int .i64 (((min i c : Nat) : Int)), .int .i64 (((max j d : Nat) : Int))]) := fun ww => tJoin_nat i j c d ww
  refine ⟨min i c, max j d, true, by omega, by omega, fun w => ?_⟩
  generalize ((min i c : Nat) : Int) = U at *
  generalize ((max j d : Nat) : Int) = V at *
  go_enter func258, ntmps258
  have G : Tri (((w.alloc (.cells #[.string s, .int .i64 p, .bool wh] 213)).alloc (.cells #[.int .i64 i, .int .i64 j] 128)).alloc (.cells #[.int .i64 0, .int .i64 0, .bool false] 186)) w.heap.size s p wh := Tri.alloc (Tri.alloc (Tri.new _ _ _ _ _) _) _
  have T : Two (((w.alloc (.cells #[.string s, .int .i64 p, .bool wh] 213)).alloc (.cells #[.int .i64 i, .int .i64 j] 128)).alloc (.cells #[.int .i64 0, .int .i64 0, .bool false] 186)) (w.heap.size + 1) i j := Two.alloc (by have := Two.new (w.alloc (.cells #[.string s, .int .i64 p, .bool wh] 213)) i j 128; simpa using this) _
  have Q : Tre (((w.alloc (.cells #[.string s, .int .i64 p, .bool wh] 213)).alloc (.cells #[.int .i64 i, .int .i64 j] 128)).alloc (.cells #[.int .i64 0, .int .i64 0, .bool false] 186)) (w.heap.size + 1 + 1) 0 0 false := by have := Tre.new ((w.alloc (.cells #[.string s, .int .i64 p, .bool wh] 213)).alloc (.cells #[.int .i64 i, .int .i64 j] 128)) 0 0 false 186; simpa using this
  go_wp2_with fail
  refine (HR1.out _).mono ?_
  rintro r1 w1 ⟨rfl, h1⟩
  obtain ⟨hc1, hf1, hz1⟩ := qb h1
  (try simp at hz1)
  have G1 : Tri w1 (w.heap.size) (s) (p) (wh) := qTi
  have ⟨G1_0, G1_1, G1_2, G1_z, G1_l⟩ := G1
  have T1 : Two w1 (w.heap.size + 1) (i) (j) := qTw
  have ⟨T1_0, T1_1, T1_z, T1_l⟩ := T1
  have Q1 : Tre w1 (w.heap.size + 1 + 1) (0) (0) (false) := qTe
  have ⟨Q1_0, Q1_1, Q1_2, Q1_z, Q1_l⟩ := Q1
  clear hc1 hf1
  have E : Two (w1.alloc (.cells #[.int .i64 c, .int .i64 d] 128)) w1.heap.size c d := Two.new _ _ _ _
  go_wp2_with fail
  refine (HE.out _).mono ?_
  rintro r2 w2 ⟨rfl, h2⟩
  obtain ⟨hc2, hf2, hz2⟩ := qb h2
  (try simp at hz2)
  have G2 : Tri w2 (w.heap.size) (s) (p) (wh) := qTi
  have ⟨G2_0, G2_1, G2_2, G2_z, G2_l⟩ := G2
  have T2 : Two w2 (w.heap.size + 1) (i) (j) := qTw
  have ⟨T2_0, T2_1, T2_z, T2_l⟩ := T2
  have Q2 : Tre w2 (w.heap.size + 1 + 1) (0) (0) (false) := qTe
  have ⟨Q2_0, Q2_1, Q2_2, Q2_z, Q2_l⟩ := Q2
  have E2 : Two w2 (w1.heap.size) (c) (d) := qTw
  have ⟨E2_0, E2_1, E2_z, E2_l⟩ := E2
  clear hc2 hf2
  go_wp2_with fail
  refine (HJ.out _).mono ?_
  rintro r3 w3 ⟨rfl, h3⟩
  obtain ⟨hc3, hf3, hz3⟩ := qb h3
  (try simp at hz3)
  have G3 : Tri w3 (w.heap.size) (s) (p) (wh) := qTi
  have ⟨G3_0, G3_1, G3_2, G3_z, G3_l⟩ := G3
  have T3 : Two w3 (w.heap.size + 1) (i) (j) := qTw
  have ⟨T3_0, T3_1, T3_z, T3_l⟩ := T3
  have Q3 : Tre w3 (w.heap.size + 1 + 1) (0) (0) (false) := qTe
  have ⟨Q3_0, Q3_1, Q3_2, Q3_z, Q3_l⟩ := Q3
  have E3 : Two w3 (w1.heap.size) (c) (d) := qTw
  have ⟨E3_0, E3_1, E3_z, E3_l⟩ := E3
  clear hc3 hf3
  go_wp2
  exact qV (.tuple #[.agg #[.int .i64 U, .int .i64 V, .bool false], .bool true]) (by simp [results, results258, go_sem, Q3_0, Q3_1, Q3_2, Q3_z, Q3_l]) rfl
