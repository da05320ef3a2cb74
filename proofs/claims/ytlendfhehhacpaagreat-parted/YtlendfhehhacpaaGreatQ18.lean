/- A part. -/
import Derived.Test.YtlendfhehhacpaaGreatQ11
set_option linter.unusedVariables false
set_option linter.unusedSimpArgs false
set_option maxRecDepth 100000
set_option maxHeartbeats 8000000
namespace Go.Proofs.YtlendfhehhacpaaGreat
open Go.RowKit Nib Tryz
def keyIs : Value → Int → Bool
 | .int .u8 d, c => d == c
 | _, _ => false
def rgFind : List MapEntry → Int → Nat → Option (Nat × Value)
 | [], _, _ => none
 | e :: es, c, i => if keyIs e.key c = true then some (i, e.val) else rgFind es c (i + 1)
def RgOk (es : List MapEntry) : Prop := ∀ e ∈ es, ∃ (c : Int) (t : ByteArray) (l : Bool), e.key = .int .u8 c ∧ e.val = .agg #[.string t, .bool l]
theorem rgNow (c : Int) : ∀ (es : List MapEntry) (i : Nat), RgOk es → Instr.findNow (.int .u8) (.int .u8 c) es i = some (rgFind es c i)
 | [], _, _ => rfl
 | e :: es, i, h => by
  obtain ⟨d, t, l, hk, hv⟩ := h e qi
  have ih := rgNow c es (i + 1) (fun x hx => h x (by simp [hx]))
  unfold Instr.findNow rgFind
  rw [hk]
  by_cases hcd : c = d
  ·subst hcd; simp [Instr.sameNow, keyIs]
  ·have h1 : (c == d) = false := by simpa using hcd
   have h2 : (d == c) = false := by simpa using Ne.symm hcd
   simp [Instr.sameNow, h1, ih, keyIs, h2]
theorem rg_find (c : Int) (es : List MapEntry) (h : RgOk es) (w : World) : (Instr.findKey 5 (.int .u8 c) es).run Tryz.prog w = .ok (rgFind es c 0) w := by
 unfold Instr.findKey
 simp [run_underlying underlying5, rgNow c es 0 h]
def rgVal : Option (Nat × Value) → Value
 | some (_, v) => v
 | none => .agg #[.string ⟨#[]⟩, .bool false]
theorem rg_look (m k : Nat) (c : Int) (es : Array MapEntry) (w : World) (hh : w.heap[m]? = some (.map es k)) (h : RgOk es.toList) : (Instr.lookup 90 (.map (some m)) (.int .u8 c) false).run Tryz.prog w = .ok (rgVal (rgFind es.toList c 0)) w := by
 have hck : ∀ e w, (Instr.checkKey e 10000 5 (.int .u8 c)).run Tryz.prog w = .ok () w := fun e w => check_u8 e 9999 c w
 have hfk := fun w => rg_find c es.toList h w
 unfold Instr.lookup
 cases hf : rgFind es.toList c 0 with
 | none => rw [hf] at hfk; simp [run_underlying underlying90, MapKept.run_getObj_map hh, hck, hfk, zero_register, Result.andThen, rgVal]
 | some x => rw [hf] at hfk; simp [run_underlying underlying90, MapKept.run_getObj_map hh, hck, hfk, zero_register, Result.andThen, rgVal]
theorem rgFind_some {c : Int} : ∀ {es : List MapEntry} {i j : Nat} {v : Value}, RgOk es → rgFind es c i = some (j, v) → i ≤ j ∧ ∃ e, es[j - i]? = some e ∧ e.key = .int .u8 c
 | [], _, _, _, _, h => by simp [rgFind] at h
 | e :: es, i, j, v, ho, h => by
  unfold rgFind at h
  obtain ⟨d, t, l, hk, hv⟩ := ho e qi
  split at h
  ·rename_i hc
   injection h with h; injection h with h1 h2
   subst h1
   rw [hk] at hc
   have : d = c := by simpa [keyIs] using hc
   exact ⟨Nat.le_refl _, e, by simp, by rw [hk, this]⟩
  ·obtain ⟨h1, x, h2, h3⟩ := rgFind_some (fun x hx => ho x (by simp [hx])) h
   refine ⟨by omega, x, ?_, h3⟩
   rw [show j - i = (j - (i + 1)) + 1 by omega, List.getElem?_cons_succ]
   exact h2
theorem rgFind_push {c d : Int} {v : Value} {b : Nat} : ∀ {es : List MapEntry} {i : Nat}, rgFind es c i = none → rgVal (rgFind (es ++ [{ key := .int .u8 c, val := v, born := b }]) d i) = if d = c then v else rgVal (rgFind es d i)
 | [], i, _ => by
  by_cases h : d = c
  ·subst h; simp [rgFind, keyIs, rgVal]
  ·have : (c == d) = false := by simpa using Ne.symm h
   simp [rgFind, keyIs, rgVal, h, this]
 | e :: es, i, hn => by
  unfold rgFind at hn
  split at hn
  ·simp at hn
  ·rename_i hc
   have ih := rgFind_push (v := v) (b := b) (d := d) hn
   simp only [List.cons_append]
   unfold rgFind
   by_cases hd : keyIs e.key d = true
   ·rw [if_pos hd, if_pos hd]
    have : d ≠ c := by intro h; subst h; exact hc hd
    rw [if_neg this]
   ·rw [if_neg hd, if_neg hd]; exact ih
theorem rgFind_set {c d : Int} {v : Value} : ∀ {es : List MapEntry} {i j : Nat} {x : Value}, rgFind es c i = some (j, x) → rgVal (rgFind (es.modify (j - i) fun e => { e with key := .int .u8 c, val := v }) d i) = if d = c then v else rgVal (rgFind es d i)
 | [], _, _, _, h => by simp [rgFind] at h
 | e :: es, i, j, x, h => by
  unfold rgFind at h
  split at h
  ·rename_i hc
   injection h with h; injection h with h1 h2
   subst h1
   rw [Nat.sub_self]
   simp only [List.modify_zero_cons]
   unfold rgFind
   by_cases hd : d = c
   ·subst hd; simp [keyIs, rgVal]
   ·have h1 : (c == d) = false := by simpa using Ne.symm hd
    have h0 : keyIs (.int .u8 c) d = false := h1
    have : keyIs e.key d = false := by
     cases hk : e.key with
     | int k n => cases k <;> simp_all [keyIs]
     | _ => simp_all [keyIs]
    simp [h0, this, hd]
  ·rename_i hc
   have hj : i + 1 ≤ j := by
    clear hc
    have : ∀ {es : List MapEntry} {i j : Nat} {x : Value}, rgFind es c i = some (j, x) → i ≤ j := by
     intro es
     induction es with
     | nil => intro i j x h; simp [rgFind] at h
     | cons e es ih =>
      intro i j x h
      unfold rgFind at h
      split at h
      ·injection h with h; injection h with h1 h2; omega
      ·have := ih h; omega
    exact this h
   have ih := rgFind_set (v := v) (d := d) h
   rw [show j - i = (j - (i + 1)) + 1 by omega, List.modify_succ_cons]
   unfold rgFind
   by_cases hd : keyIs e.key d = true
   ·rw [if_pos hd, if_pos hd]
    have : d ≠ c := by intro h; subst h; exact hc hd
    rw [if_neg this]
   ·rw [if_neg hd, if_neg hd]; exact ih
theorem rgOk_modify {c : Int} {t : ByteArray} {l : Bool} : ∀ (es : List MapEntry) (j : Nat), RgOk es → RgOk (es.modify j fun e => { e with key := .int .u8 c, val := .agg #[.string t, .bool l] })
 | [], j, h => by simpa using h
 | e :: es, 0, h => by
  intro x hx
  rw [List.modify_zero_cons] at hx
  rcases List.mem_cons.1 hx with rfl | hx
  ·exact ⟨c, t, l, rfl, rfl⟩
  ·exact h x (by simp [hx])
 | e :: es, j + 1, h => by
  intro x hx
  rw [List.modify_succ_cons] at hx
  rcases List.mem_cons.1 hx with rfl | hx
  ·exact h _ qi
  ·exact rgOk_modify es j (fun y hy => h y (by simp [hy])) x hx
theorem rg_update (m k : Nat) (c : Int) (t : ByteArray) (l : Bool) (es : Array MapEntry) (w : World) (hh : w.heap[m]? = some (.map es k)) (h : RgOk es.toList) :
  ∃ (es' : Array MapEntry) (k' : Nat), (Instr.mapUpdate 90 (.map (some m)) (.int .u8 c) (.agg #[.string t, .bool l])).run Tryz.prog w = .ok () { w with heap := w.heap.setIfInBounds m (.map es' k') } ∧ RgOk es'.toList ∧
   ∀ d, rgVal (rgFind es'.toList d 0) = if d = c then .agg #[.string t, .bool l] else rgVal (rgFind es.toList d 0) := by
 have hck : ∀ e w, (Instr.checkKey e 10000 5 (.int .u8 c)).run Tryz.prog w = .ok () w := fun e w => check_u8 e 9999 c w
 have hfk := fun w => rg_find c es.toList h w
 have hso := fun o => MapKept.run_setObj_map (P := Tryz.prog) o hh
 cases hf : rgFind es.toList c 0 with
 | none =>
  rw [hf] at hfk
  refine ⟨es.push { key := .int .u8 c, val := .agg #[.string t, .bool l], born := k }, k + 1, ?_, ?_, ?_⟩
  ·unfold Instr.mapUpdate
   simp [run_underlying underlying90, MapKept.run_getObj_map hh, hck, hfk, hso, Result.andThen]
  ·intro e he
   simp only [Array.toList_push, List.mem_append, List.mem_singleton] at he
   rcases he with he | rfl
   ·exact h e he
   ·exact ⟨c, t, l, rfl, rfl⟩
  ·intro d
   rw [Array.toList_push]
   exact rgFind_push hf
 | some y =>
  obtain ⟨j, x⟩ := y
  rw [hf] at hfk
  obtain ⟨_, e0, he0, hk0⟩ := rgFind_some h hf
  rw [Nat.sub_zero] at he0
  have he1 : es[j]? = some e0 := by simpa using he0
  refine ⟨es.modify j fun e => { e with key := .int .u8 c, val := .agg #[.string t, .bool l] }, k, ?_, ?_, ?_⟩
  ·unfold Instr.mapUpdate
   simp [run_underlying underlying90, MapKept.run_getObj_map hh, hck, hfk, hso, Result.andThen, he1, hk0, Instr.keyThatStays, Instr.sameBits]
  ·intro e he
   rw [Array.toList_modify] at he
   exact rgOk_modify es.toList j h e he
  ·intro d
   rw [Array.toList_modify]
   have := rgFind_set (v := .agg #[.string t, .bool l]) (d := d) hf
   rw [Nat.sub_zero] at this
   exact this
structure Tri (w : World) (b : Nat) (s : ByteArray) (p : Int) (v : Bool) : Prop where
 c0 : w.cell? ⟨b, 0, none⟩ = some (.string s)
 c1 : w.cell? ⟨b, 1, none⟩ = some (.int .i64 p)
 c2 : w.cell? ⟨b, 2, none⟩ = some (.bool v)
 fz : ∀ o, w.frozen? ⟨b, o, none⟩ = false
 lt : b < w.heap.size
theorem Tri.of_block {w w' : World} {b : Nat} {s : ByteArray} {p : Int} {v : Bool} (h : Tri w b s p v) (hb : w'.heap[b]? = w.heap[b]?) (hz : w.heap.size ≤ w'.heap.size) : Tri w' b s p v := by
 have hc : ∀ o, w'.cell? ⟨b, o, none⟩ = w.cell? ⟨b, o, none⟩ := fun o => World.cell?_of_block (w := w) hb
 have hf : ∀ o, w'.frozen? ⟨b, o, none⟩ = w.frozen? ⟨b, o, none⟩ := fun o => World.frozen?_of_block (w := w) hb
 exact ⟨(hc _).trans h.c0, (hc _).trans h.c1, (hc _).trans h.c2, fun o => (hf o).trans (h.fz o), Nat.lt_of_lt_of_le h.lt hz⟩
theorem Tri.below {w w' : World} {b : Nat} {s : ByteArray} {p : Int} {v : Bool} (h : Tri w b s p v) (hb : Below w.heap.size w w') : Tri w' b s p v := h.of_block (hb.block b h.lt) hb.size
theorem Tri.alloc {w : World} {b : Nat} {s : ByteArray} {p : Int} {v : Bool} (h : Tri w b s p v) (o : Obj) : Tri (w.alloc o) b s p v := h.below ((Below.refl _ _).alloc (Nat.le_refl _) _)
theorem Tri.drewN {w : World} {b : Nat} {s : ByteArray} {p : Int} {v : Bool} (h : Tri w b s p v) (k : Nat) : Tri (w.drewN k) b s p v := h.below (below_drewN (Below.refl _ _) _)
theorem Tri.drew {w : World} {b : Nat} {s : ByteArray} {p : Int} {v : Bool} (h : Tri w b s p v) : Tri w.drew b s p v := h.below (Below.refl _ _).drew
theorem Tri.other {w : World} {b : Nat} {s : ByteArray} {p : Int} {v : Bool} (h : Tri w b s p v) {q : Addr} (hp : b ≠ q.block) (u : Value) : Tri (w.setCell q u) b s p v :=
 h.of_block (Below.heap_setCell _ _ _ _ hp) (by simp [World.setCell])
theorem Tri.new (w : World) (s : ByteArray) (p : Int) (v : Bool) (t : TypeId) : Tri (w.alloc (.cells #[.string s, .int .i64 p, .bool v] t)) w.heap.size s p v :=
 ⟨by simp, by simp, by simp, by simp, by simp⟩
structure Tre (w : World) (b : Nat) (s p : Int) (v : Bool) : Prop where
 c0 : w.cell? ⟨b, 0, none⟩ = some (.int .i64 s)
 c1 : w.cell? ⟨b, 1, none⟩ = some (.int .i64 p)
 c2 : w.cell? ⟨b, 2, none⟩ = some (.bool v)
 fz : ∀ o, w.frozen? ⟨b, o, none⟩ = false
 lt : b < w.heap.size
theorem Tre.of_block {w w' : World} {b : Nat} {s p : Int} {v : Bool} (h : Tre w b s p v) (hb : w'.heap[b]? = w.heap[b]?) (hz : w.heap.size ≤ w'.heap.size) : Tre w' b s p v := by
 have hc : ∀ o, w'.cell? ⟨b, o, none⟩ = w.cell? ⟨b, o, none⟩ := fun o => World.cell?_of_block (w := w) hb
 have hf : ∀ o, w'.frozen? ⟨b, o, none⟩ = w.frozen? ⟨b, o, none⟩ := fun o => World.frozen?_of_block (w := w) hb
 exact ⟨(hc _).trans h.c0, (hc _).trans h.c1, (hc _).trans h.c2, fun o => (hf o).trans (h.fz o), Nat.lt_of_lt_of_le h.lt hz⟩
theorem Tre.below {w w' : World} {b : Nat} {s p : Int} {v : Bool} (h : Tre w b s p v) (hb : Below w.heap.size w w') : Tre w' b s p v := h.of_block (hb.block b h.lt) hb.size
theorem Tre.alloc {w : World} {b : Nat} {s p : Int} {v : Bool} (h : Tre w b s p v) (o : Obj) : Tre (w.alloc o) b s p v := h.below ((Below.refl _ _).alloc (Nat.le_refl _) _)
theorem Tre.drewN {w : World} {b : Nat} {s p : Int} {v : Bool} (h : Tre w b s p v) (k : Nat) : Tre (w.drewN k) b s p v := h.below (below_drewN (Below.refl _ _) _)
theorem Tre.drew {w : World} {b : Nat} {s p : Int} {v : Bool} (h : Tre w b s p v) : Tre w.drew b s p v := h.below (Below.refl _ _).drew
theorem Tre.other {w : World} {b : Nat} {s p : Int} {v : Bool} (h : Tre w b s p v) {q : Addr} (hp : b ≠ q.block) (u : Value) : Tre (w.setCell q u) b s p v :=
 h.of_block (Below.heap_setCell _ _ _ _ hp) (by simp [World.setCell])
theorem Tre.new (w : World) (s p : Int) (v : Bool) (t : TypeId) : Tre (w.alloc (.cells #[.int .i64 s, .int .i64 p, .bool v] t)) w.heap.size s p v :=
 ⟨by simp, by simp, by simp, by simp, by simp⟩
theorem tRun_ex (s : ByteArray) (k : Nat) (g : Bool) (hs : s.size ≤ 1000) (hk : k ≤ s.size) :
  ∃ i j : Nat, i ≤ k ∧ k ≤ j ∧ j ≤ s.size ∧ ∀ ww, qC 256 #[.string s, .int .i64 k, .bool g] ww (.agg #[.int .i64 (i), .int .i64 (j)]) := by
 by_cases hn : k < s.size ∧ bt s k ≠ 10
 ·exact ⟨runB s k g, wrun s k g, runB_le s k g, wrun_ge s k g, wrun_le hk, fun ww => tRun_any s k k g ww hs rfl hn.1 hn.2⟩
 ·exact ⟨k, k, Nat.le_refl _, Nat.le_refl _, hk, fun ww => tRun_none s k k g ww hs rfl hk (fun h => by
   by_cases e : bt s k = 10
   ·exact e
   ·exact absurd ⟨h, e⟩ hn)⟩
theorem oPair (s : ByteArray) (p a b : Int) (wh : Bool) (w : World) (ha : -5000 ≤ a ∧ a ≤ 5000) (hb : -5000 ≤ b ∧ b ≤ 5000) :
  qC 261 #[.agg #[.string s, .int .i64 p, .bool wh], .agg #[.int .i64 (a), .int .i64 (b)]] w (.agg #[.int .i64 (if wh then a else a + 1), .int .i64 (if wh then b else b - 1), .bool false]) := by
 have hwr1 : IntKind.i64.wrap (a + 1) = a + 1 := by rw [IntKind.wrap_i64]; omega
 have hwr2 : IntKind.i64.wrap (b - 1) = b - 1 := by rw [IntKind.wrap_i64]; omega
 cases wh
 ·go_enter func261, ntmps261
  go_wp2
  refine bodyPost_ret (v := .agg #[.int .i64 (a + 1), .int .i64 (b - 1), .bool false]) (by simp [results, results261, go_sem]) rfl ⟨rfl, ?_⟩
  exact qB
 ·go_enter func261, ntmps261
  go_wp2
  refine bodyPost_ret (v := .agg #[.int .i64 a, .int .i64 b, .bool false]) (by simp [results, results261, go_sem]) rfl ⟨rfl, ?_⟩
  exact qB
theorem oBlanks_none (s : ByteArray) (p a : Int) (wh : Bool) (w : World) :
  qC 257 #[.agg #[.string s, .int .i64 p, .bool wh], .agg #[.int .i64 (a), .int .i64 (a)]] w (.bool false) := by
 have HE : qH 185 #[.agg #[.int .i64 (a), .int .i64 (a)]] (.bool true) := by
  intro ww
  have := tIsEmpty_any a a ww
  rw [show (a == a) = true by simp] at this
  exact this
 go_enter func257, ntmps257
 go_wp2_with fail
 refine (HE.out _).mono ?_
 rintro e w1 ⟨rfl, h1⟩
 obtain ⟨hc1, hf1, hz1⟩ := qb h1
 try simp at hz1
 go_wp2
 refine bodyPost_ret (v := .bool false) (by simp [results, results257, go_sem]) rfl ⟨rfl, ?_⟩
 exact qB
theorem oBlanks_some (s : ByteArray) (p : Int) (i j : Nat) (wh : Bool) (w : World) (hij : i < j) (hj : j ≤ s.size) :
  qC 257 #[.agg #[.string s, .int .i64 p, .bool wh], .agg #[.int .i64 (i), .int .i64 (j)]] w (.bool (cls ((((s[i]'(by omega)).toNat : Nat) : Int)) false == 0)) := by
 have HE : qH 185 #[.agg #[.int .i64 (i), .int .i64 (j)]] (.bool false) := by
  intro ww
  have := tIsEmpty_any i j ww
  rw [show ((i : Int) == j) = false by simp; omega] at this
  exact this
 have hi : i < s.size := by omega
 have HC : Hid (∀ ww, Calls Tryz.prog 225 #[.int .u8 ((((s[i]'hi).toNat : Nat) : Int)), .bool false] ww fun e w' => e = .returned (.int .i64 (cls ((((s[i]'hi).toNat : Nat) : Int)) false)) ∧ w' = ww) := fun ww => tClass_any _ false ww
 generalize cls ((((s[i]'(by omega)).toNat : Nat) : Int)) false = X at *
 have i1 : ((i : Nat) : Int) < ((s.size : Nat) : Int) := by omega
 go_enter func257, ntmps257
 go_wp2_with fail
 refine (HE.out _).mono ?_
 rintro e w1 ⟨rfl, h1⟩
 obtain ⟨hc1, hf1, hz1⟩ := qb h1
 try simp at hz1
 have z1 : w.heap.size < w1.heap.size := by omega
 go_wp2_with fail
 refine (HC.out _).mono ?_
 rintro e w' ⟨rfl, rfl⟩
 go_wp2
 refine bodyPost_ret (v := .bool (X == 0)) (by simp [results, results257, go_sem]) rfl ⟨rfl, ?_⟩
 exact qB
theorem oBlanks_ex (s : ByteArray) (p : Int) (i j : Nat) (wh : Bool) (hij : i ≤ j) (hj : j ≤ s.size) :
  ∃ B : Bool, ∀ ww, qC 257 #[.agg #[.string s, .int .i64 p, .bool wh], .agg #[.int .i64 (i), .int .i64 (j)]] ww (.bool B) := by
 by_cases h : i = j
 ·subst h
  exact ⟨false, fun ww => oBlanks_none s p i wh ww⟩
 ·exact ⟨_, fun ww => oBlanks_some s p i j wh ww qo hj⟩
theorem qTi {w : World} {b : Nat} {s : ByteArray} {p : Int} {v : Bool} (h : Tri w b s p v := by repeat (with_reducible first | assumption | refine Tri.other ?_ (by first | omega | (simp <;> omega)) _ | refine Tri.alloc ?_ _ | refine Tri.drewN ?_ _ | refine Tri.drew ?_ | refine Tri.below ?_ (by with_reducible assumption))) : Tri w b s p v := h
theorem qTe {w : World} {b : Nat} {s p : Int} {v : Bool} (h : Tre w b s p v := by repeat (with_reducible first | assumption | refine Tre.other ?_ (by first | omega | (simp <;> omega)) _ | refine Tre.alloc ?_ _ | refine Tre.drewN ?_ _ | refine Tre.drew ?_ | refine Tre.below ?_ (by with_reducible assumption))) : Tre w b s p v := h
theorem tJoin_nat (a b c d : Nat) (w : World) :
  qC 196 #[.agg #[.int .i64 (a), .int .i64 (b)], .agg #[.int .i64 (c), .int .i64 (d)]] w (.agg #[.int .i64 (((min a c : Nat) : Int)), .int .i64 (((max b d : Nat) : Int))]) := by
 have := tJoin_any a b c d w
 rw [show min (a : Int) c = ((min a c : Nat) : Int) by omega, show max (b : Int) d = ((max b d : Nat) : Int) by omega] at this
 exact this
theorem tEmpty_eq (a : Int) (w : World) :
  qC 185 #[.agg #[.int .i64 (a), .int .i64 (a)]] w (.bool true) := by
 have := tIsEmpty_any a a w
 rw [show (a == a) = true by simp] at this
 exact this
theorem tEmpty_ne (a b : Nat) (w : World) (h : a ≠ b) :
  qC 185 #[.agg #[.int .i64 (a), .int .i64 (b)]] w (.bool false) := by
 have := tIsEmpty_any a b w
 rw [show ((a : Int) == b) = false by simp; omega] at this
 exact this
theorem qt12 {P : Prop} (h : P := by
  clear he
  go_enter func259, ntmps259
  have G : Tri (((w.alloc (.cells #[.string s, .int .i64 p, .bool wh] 213)).alloc (.cells #[.int .i64 i, .int .i64 j] 128)).alloc (.cells #[.int .i64 0, .int .i64 0] 128)) w.heap.size s p wh := Tri.alloc (Tri.alloc (Tri.new _ _ _ _ _) _) _
  have T : Two (((w.alloc (.cells #[.string s, .int .i64 p, .bool wh] 213)).alloc (.cells #[.int .i64 i, .int .i64 j] 128)).alloc (.cells #[.int .i64 0, .int .i64 0] 128)) (w.heap.size + 1) i j := Two.alloc (by have := Two.new (w.alloc (.cells #[.string s, .int .i64 p, .bool wh] 213)) i j 128; simpa using this) _
  have R : Two (((w.alloc (.cells #[.string s, .int .i64 p, .bool wh] 213)).alloc (.cells #[.int .i64 i, .int .i64 j] 128)).alloc (.cells #[.int .i64 0, .int .i64 0] 128)) (w.heap.size + 1 + 1) 0 0 := qN
  go_wp2_with fail
  refine (HR1.out _).mono ?_
  rintro r1 w1 ⟨rfl, h1⟩
  obtain ⟨hc1, hf1, hz1⟩ := qb h1
  (try simp at hz1)
  have G1 : Tri w1 (w.heap.size) (s) (p) (wh) := qTi
  have ⟨G1_0, G1_1, G1_2, G1_z, G1_l⟩ := G1
  have T1 : Two w1 (w.heap.size + 1) (i) (j) := qTw
  have ⟨T1_0, T1_1, T1_z, T1_l⟩ := T1
  have R1 : Two w1 (w.heap.size + 1 + 1) (0) (0) := qTw
  have ⟨R1_0, R1_1, R1_z, R1_l⟩ := R1
  clear hc1 hf1
  have E : Two (w1.alloc (.cells #[.int .i64 c, .int .i64 d] 128)) w1.heap.size c d := Two.new _ _ _ _
  go_wp2_with fail
  refine (HB1.out _).mono ?_
  rintro r2 w2 ⟨rfl, h2⟩
  obtain ⟨hc2, hf2, hz2⟩ := qb h2
  (try simp at hz2)
  have G2 : Tri w2 (w.heap.size) (s) (p) (wh) := qTi
  have ⟨G2_0, G2_1, G2_2, G2_z, G2_l⟩ := G2
  have T2 : Two w2 (w.heap.size + 1) (i) (j) := qTw
  have ⟨T2_0, T2_1, T2_z, T2_l⟩ := T2
  have R2 : Two w2 (w.heap.size + 1 + 1) (0) (0) := qTw
  have ⟨R2_0, R2_1, R2_z, R2_l⟩ := R2
  have E2 : Two w2 (w1.heap.size) (c) (d) := qTw
  have ⟨E2_0, E2_1, E2_z, E2_l⟩ := E2
  clear hc2 hf2
  go_wp2_with fail
  refine (HR2.out _).mono ?_
  rintro r3 w3 ⟨rfl, h3⟩
  obtain ⟨hc3, hf3, hz3⟩ := qb h3
  (try simp at hz3)
  have G3 : Tri w3 (w.heap.size) (s) (p) (wh) := qTi
  have ⟨G3_0, G3_1, G3_2, G3_z, G3_l⟩ := G3
  have T3 : Two w3 (w.heap.size + 1) (i) (j) := qTw
  have ⟨T3_0, T3_1, T3_z, T3_l⟩ := T3
  have R3 : Two w3 (w.heap.size + 1 + 1) (0) (0) := qTw
  have ⟨R3_0, R3_1, R3_z, R3_l⟩ := R3
  clear hc3 hf3
  have E2 : Two (w3.alloc (.cells #[.int .i64 c', .int .i64 d'] 128)) w3.heap.size c' d' := Two.new _ _ _ _
  go_wp2_with fail
  refine (HB2.out _).mono ?_
  rintro r4 w4 ⟨rfl, h4⟩
  obtain ⟨hc4, hf4, hz4⟩ := qb h4
  (try simp at hz4)
  have G4 : Tri w4 (w.heap.size) (s) (p) (wh) := qTi
  have ⟨G4_0, G4_1, G4_2, G4_z, G4_l⟩ := G4
  have T4 : Two w4 (w.heap.size + 1) (i) (j) := qTw
  have ⟨T4_0, T4_1, T4_z, T4_l⟩ := T4
  have R4 : Two w4 (w.heap.size + 1 + 1) (0) (0) := qTw
  have ⟨R4_0, R4_1, R4_z, R4_l⟩ := R4
  have E24 : Two w4 (w3.heap.size) (c') (d') := qTw
  have ⟨E24_0, E24_1, E24_z, E24_l⟩ := E24
  clear hc4 hf4
  go_wp2_with fail
  refine (HJ.out _).mono ?_
  rintro r5 w5 ⟨rfl, h5⟩
  obtain ⟨hc5, hf5, hz5⟩ := qb h5
  (try simp at hz5)
  have G5 : Tri w5 (w.heap.size) (s) (p) (wh) := qTi
  have ⟨G5_0, G5_1, G5_2, G5_z, G5_l⟩ := G5
  have T5 : Two w5 (w.heap.size + 1) (i) (j) := qTw
  have ⟨T5_0, T5_1, T5_z, T5_l⟩ := T5
  have R5 : Two w5 (w.heap.size + 1 + 1) (0) (0) := qTw
  have ⟨R5_0, R5_1, R5_z, R5_l⟩ := R5
  have E25 : Two w5 (w3.heap.size) (c') (d') := qTw
  have ⟨E25_0, E25_1, E25_z, E25_l⟩ := E25
  clear hc5 hf5
  go_wp2
  exact qV (.agg #[.int .i64 (U), .int .i64 (V)]) (by simp [results, results259, go_sem, R5_0, R5_1, R5_z, R5_l, T5_0, T5_1]) rfl
 ) : P := h
theorem qt14 {P : Prop} (h : P := by
  clear he
  go_enter func259, ntmps259
  have G : Tri (((w.alloc (.cells #[.string s, .int .i64 p, .bool wh] 213)).alloc (.cells #[.int .i64 i, .int .i64 j] 128)).alloc (.cells #[.int .i64 0, .int .i64 0] 128)) w.heap.size s p wh := Tri.alloc (Tri.alloc (Tri.new _ _ _ _ _) _) _
  have T : Two (((w.alloc (.cells #[.string s, .int .i64 p, .bool wh] 213)).alloc (.cells #[.int .i64 i, .int .i64 j] 128)).alloc (.cells #[.int .i64 0, .int .i64 0] 128)) (w.heap.size + 1) i j := Two.alloc (by have := Two.new (w.alloc (.cells #[.string s, .int .i64 p, .bool wh] 213)) i j 128; simpa using this) _
  have R : Two (((w.alloc (.cells #[.string s, .int .i64 p, .bool wh] 213)).alloc (.cells #[.int .i64 i, .int .i64 j] 128)).alloc (.cells #[.int .i64 0, .int .i64 0] 128)) (w.heap.size + 1 + 1) 0 0 := qN
  go_wp2_with fail
  refine (HR1.out _).mono ?_
  rintro r1 w1 ⟨rfl, h1⟩
  obtain ⟨hc1, hf1, hz1⟩ := qb h1
  (try simp at hz1)
  have G1 : Tri w1 (w.heap.size) (s) (p) (wh) := qTi
  have ⟨G1_0, G1_1, G1_2, G1_z, G1_l⟩ := G1
  have T1 : Two w1 (w.heap.size + 1) (i) (j) := qTw
  have ⟨T1_0, T1_1, T1_z, T1_l⟩ := T1
  have R1 : Two w1 (w.heap.size + 1 + 1) (0) (0) := qTw
  have ⟨R1_0, R1_1, R1_z, R1_l⟩ := R1
  clear hc1 hf1
  have E : Two (w1.alloc (.cells #[.int .i64 c, .int .i64 d] 128)) w1.heap.size c d := Two.new _ _ _ _
  go_wp2_with fail
  refine (HB1.out _).mono ?_
  rintro r2 w2 ⟨rfl, h2⟩
  obtain ⟨hc2, hf2, hz2⟩ := qb h2
  (try simp at hz2)
  have G2 : Tri w2 (w.heap.size) (s) (p) (wh) := qTi
  have ⟨G2_0, G2_1, G2_2, G2_z, G2_l⟩ := G2
  have T2 : Two w2 (w.heap.size + 1) (i) (j) := qTw
  have ⟨T2_0, T2_1, T2_z, T2_l⟩ := T2
  have R2 : Two w2 (w.heap.size + 1 + 1) (0) (0) := qTw
  have ⟨R2_0, R2_1, R2_z, R2_l⟩ := R2
  have E2 : Two w2 (w1.heap.size) (c) (d) := qTw
  have ⟨E2_0, E2_1, E2_z, E2_l⟩ := E2
  clear hc2 hf2
  go_wp2_with fail
  refine (HR2.out _).mono ?_
  rintro r3 w3 ⟨rfl, h3⟩
  obtain ⟨hc3, hf3, hz3⟩ := qb h3
  (try simp at hz3)
  have G3 : Tri w3 (w.heap.size) (s) (p) (wh) := qTi
  have ⟨G3_0, G3_1, G3_2, G3_z, G3_l⟩ := G3
  have T3 : Two w3 (w.heap.size + 1) (i) (j) := qTw
  have ⟨T3_0, T3_1, T3_z, T3_l⟩ := T3
  have R3 : Two w3 (w.heap.size + 1 + 1) (0) (0) := qTw
  have ⟨R3_0, R3_1, R3_z, R3_l⟩ := R3
  clear hc3 hf3
  have E2 : Two (w3.alloc (.cells #[.int .i64 c', .int .i64 d'] 128)) w3.heap.size c' d' := Two.new _ _ _ _
  go_wp2_with fail
  refine (HB2.out _).mono ?_
  rintro r4 w4 ⟨rfl, h4⟩
  obtain ⟨hc4, hf4, hz4⟩ := qb h4
  (try simp at hz4)
  have G4 : Tri w4 (w.heap.size) (s) (p) (wh) := qTi
  have ⟨G4_0, G4_1, G4_2, G4_z, G4_l⟩ := G4
  have T4 : Two w4 (w.heap.size + 1) (i) (j) := qTw
  have ⟨T4_0, T4_1, T4_z, T4_l⟩ := T4
  have R4 : Two w4 (w.heap.size + 1 + 1) (0) (0) := qTw
  have ⟨R4_0, R4_1, R4_z, R4_l⟩ := R4
  have E24 : Two w4 (w3.heap.size) (c') (d') := qTw
  have ⟨E24_0, E24_1, E24_z, E24_l⟩ := E24
  clear hc4 hf4
  go_wp2
  exact qV (.agg #[.int .i64 (i), .int .i64 (j)]) (by simp [results, results259, go_sem, R4_0, R4_1, R4_z, R4_l, T4_0, T4_1]) rfl
 ) : P := h
theorem oWordB (s : ByteArray) (p : Int) (i j : Nat) (wh g : Bool) (hs : s.size ≤ 1000) (hij : i ≤ j) (hj : j ≤ s.size) :
  ∃ a b : Nat, a ≤ b ∧ b ≤ s.size ∧ ∀ ww, qC 259 #[.agg #[.string s, .int .i64 p, .bool wh], .agg #[.int .i64 (i), .int .i64 (j)], .bool g] ww (.agg #[.int .i64 (a), .int .i64 (b)]) := by
 obtain ⟨c, d, c1, c2, c3, HR1⟩ := tRun_ex s j g hs hj
 obtain ⟨c', d', c1', c2', c3', HR2⟩ := tRun_ex s (i - 1) g hs qo
 obtain ⟨B1, HB1⟩ := oBlanks_ex s p c d wh qo c3
 obtain ⟨B2, HB2⟩ := oBlanks_ex s p c' d' wh qo c3'
 have hwr : IntKind.i64.wrap ((i : Int) - 1) = (i : Int) - 1 := by rw [IntKind.wrap_i64]; omega
 have HR1 : qH 256 #[.string s, .int .i64 j, .bool g] (.agg #[.int .i64 (c), .int .i64 (d)]) := HR1
 cases B1 with
 | true =>
  have HB1 : qH 257 #[.agg #[.string s, .int .i64 p, .bool wh], .agg #[.int .i64 (c), .int .i64 (d)]] (.bool true) := HB1
  have HJ : qH 196 #[.agg #[.int .i64 (i), .int .i64 (j)], .agg #[.int .i64 (c), .int .i64 (d)]] (.agg #[.int .i64 (((min i c : Nat) : Int)), .int .i64 (((max j d : Nat) : Int))]) := fun ww => tJoin_nat i j c d ww
  refine ⟨min i c, max j d, by omega, by omega, fun w => ?_⟩
  generalize ((min i c : Nat) : Int) = U at *
  generalize ((max j d : Nat) : Int) = V at *
  clear HR2 HB2 c1 c2 c3 c1' c2' c3'
  go_enter func259, ntmps259
  have G : Tri (((w.alloc (.cells #[.string s, .int .i64 p, .bool wh] 213)).alloc (.cells #[.int .i64 i, .int .i64 j] 128)).alloc (.cells #[.int .i64 0, .int .i64 0] 128)) w.heap.size s p wh := Tri.alloc (Tri.alloc (Tri.new _ _ _ _ _) _) _
  have T : Two (((w.alloc (.cells #[.string s, .int .i64 p, .bool wh] 213)).alloc (.cells #[.int .i64 i, .int .i64 j] 128)).alloc (.cells #[.int .i64 0, .int .i64 0] 128)) (w.heap.size + 1) i j := Two.alloc (by have := Two.new (w.alloc (.cells #[.string s, .int .i64 p, .bool wh] 213)) i j 128; simpa using this) _
  have R : Two (((w.alloc (.cells #[.string s, .int .i64 p, .bool wh] 213)).alloc (.cells #[.int .i64 i, .int .i64 j] 128)).alloc (.cells #[.int .i64 0, .int .i64 0] 128)) (w.heap.size + 1 + 1) 0 0 := qN
  go_wp2_with fail
  refine (HR1.out _).mono ?_
  rintro r1 w1 ⟨rfl, h1⟩
  obtain ⟨hc1, hf1, hz1⟩ := qb h1
  (try simp at hz1)
  have G1 : Tri w1 (w.heap.size) (s) (p) (wh) := qTi
  have ⟨G1_0, G1_1, G1_2, G1_z, G1_l⟩ := G1
  have T1 : Two w1 (w.heap.size + 1) (i) (j) := qTw
  have ⟨T1_0, T1_1, T1_z, T1_l⟩ := T1
  have R1 : Two w1 (w.heap.size + 1 + 1) (0) (0) := qTw
  have ⟨R1_0, R1_1, R1_z, R1_l⟩ := R1
  clear hc1 hf1
  have E : Two (w1.alloc (.cells #[.int .i64 c, .int .i64 d] 128)) w1.heap.size c d := Two.new _ _ _ _
  go_wp2_with fail
  refine (HB1.out _).mono ?_
  rintro r2 w2 ⟨rfl, h2⟩
  obtain ⟨hc2, hf2, hz2⟩ := qb h2
  (try simp at hz2)
  have G2 : Tri w2 (w.heap.size) (s) (p) (wh) := qTi
  have ⟨G2_0, G2_1, G2_2, G2_z, G2_l⟩ := G2
  have T2 : Two w2 (w.heap.size + 1) (i) (j) := qTw
  have ⟨T2_0, T2_1, T2_z, T2_l⟩ := T2
  have R2 : Two w2 (w.heap.size + 1 + 1) (0) (0) := qTw
  have ⟨R2_0, R2_1, R2_z, R2_l⟩ := R2
  have E2 : Two w2 (w1.heap.size) (c) (d) := qTw
  have ⟨E2_0, E2_1, E2_z, E2_l⟩ := E2
  clear hc2 hf2
  go_wp2_with fail
  refine (HJ.out _).mono ?_
  rintro r3 w3 ⟨rfl, h3⟩
  obtain ⟨hc3, hf3, hz3⟩ := qb h3
  (try simp at hz3)
  have G3 : Tri w3 (w.heap.size) (s) (p) (wh) := qTi
  have ⟨G3_0, G3_1, G3_2, G3_z, G3_l⟩ := G3
  have T3 : Two w3 (w.heap.size + 1) (i) (j) := qTw
  have ⟨T3_0, T3_1, T3_z, T3_l⟩ := T3
  have R3 : Two w3 (w.heap.size + 1 + 1) (0) (0) := qTw
  have ⟨R3_0, R3_1, R3_z, R3_l⟩ := R3
  have E3 : Two w3 (w1.heap.size) (c) (d) := qTw
  have ⟨E3_0, E3_1, E3_z, E3_l⟩ := E3
  clear hc3 hf3
  go_wp2
  exact qV (.agg #[.int .i64 (U), .int .i64 (V)]) (by simp [results, results259, go_sem, R3_0, R3_1, R3_z, R3_l, T3_0, T3_1]) rfl
 | false =>
  have HB1 : qH 257 #[.agg #[.string s, .int .i64 p, .bool wh], .agg #[.int .i64 (c), .int .i64 (d)]] (.bool false) := HB1
  have hcase : (0 < i ∧ (((i - 1 : Nat)) : Int) = (i : Int) - 1 ∧ ¬ (i : Int) - 1 < 0) ∨ (((i - 1 : Nat) : Int) = 0 ∧ (i : Int) - 1 < 0) := by omega
  have hx0 : i = 0 → True := fun _ => trivial
  cases B2 with
  | true =>
   have HB2 : qH 257 #[.agg #[.string s, .int .i64 p, .bool wh], .agg #[.int .i64 (c'), .int .i64 (d')]] (.bool true) := HB2
   have HJ : qH 196 #[.agg #[.int .i64 (i), .int .i64 (j)], .agg #[.int .i64 (c'), .int .i64 (d')]] (.agg #[.int .i64 (((min i c' : Nat) : Int)), .int .i64 (((max j d' : Nat) : Int))]) := fun ww => tJoin_nat i j c' d' ww
   refine ⟨min i c', max j d', by omega, by omega, fun w => ?_⟩
   generalize ((min i c' : Nat) : Int) = U at *
   generalize ((max j d' : Nat) : Int) = V at *
   clear c1 c2 c3 c1' c2' c3' hij hx0
   rcases hcase with ⟨hi, he, hne⟩ | ⟨he, hne⟩
   ·have HR2 : Hid (∀ ww, qC 256 #[.string s, .int .i64 ((i : Int) - 1), .bool g] ww (.agg #[.int .i64 (c'), .int .i64 (d')])) := by
     rw [← he]; exact HR2
    exact qt12
   ·have HR2 : Hid (∀ ww, qC 256 #[.string s, .int .i64 0, .bool g] ww (.agg #[.int .i64 (c'), .int .i64 (d')])) := by
     rw [he] at HR2; exact HR2
    exact qt12
  | false =>
   have HB2 : qH 257 #[.agg #[.string s, .int .i64 p, .bool wh], .agg #[.int .i64 (c'), .int .i64 (d')]] (.bool false) := HB2
   refine ⟨i, j, by omega, by omega, fun w => ?_⟩
   clear c1 c2 c3 c1' c2' c3' hij hx0
   rcases hcase with ⟨hi, he, hne⟩ | ⟨he, hne⟩
   ·have HR2 : Hid (∀ ww, qC 256 #[.string s, .int .i64 ((i : Int) - 1), .bool g] ww (.agg #[.int .i64 (c'), .int .i64 (d')])) := by
     rw [← he]; exact HR2
    exact qt14
   ·have HR2 : Hid (∀ ww, qC 256 #[.string s, .int .i64 0, .bool g] ww (.agg #[.int .i64 (c'), .int .i64 (d')])) := by
     rw [he] at HR2; exact HR2
    exact qt14
theorem oBlanksW (s : ByteArray) (p : Int) (i j : Nat) (wh g : Bool) (hs : s.size ≤ 1000) (hij : i ≤ j) (hj : j ≤ s.size) :
  ∃ (a b : Nat) (is : Bool), a ≤ b ∧ b ≤ s.size ∧ ∀ ww, qC 258 #[.agg #[.string s, .int .i64 p, .bool wh], .agg #[.int .i64 (i), .int .i64 (j)], .bool g] ww (.tuple #[.agg #[.int .i64 a, .int .i64 b, .bool false], .bool is]) := by
 obtain ⟨c, d, c1, c2, c3, HR1⟩ := tRun_ex s j g hs hj
 have HR1 : qH 256 #[.string s, .int .i64 j, .bool g] (.agg #[.int .i64 (c), .int .i64 (d)]) := HR1
 by_cases hcd : c = d
 ·subst hcd
  have HE : qH 185 #[.agg #[.int .i64 (c), .int .i64 (c)]] (.bool true) := fun ww => tEmpty_eq c ww
  refine ⟨0, 0, false, Nat.le_refl _, Nat.zero_le _, fun w => ?_⟩
  go_enter func258, ntmps258
  have G : Tri (((w.alloc (.cells #[.string s, .int .i64 p, .bool wh] 213)).alloc (.cells #[.int .i64 i, .int .i64 j] 128)).alloc (.cells #[.int .i64 0, .int .i64 0, .bool false] 186)) w.heap.size s p wh := Tri.alloc (Tri.alloc (Tri.new _ _ _ _ _) _) _
  have T : Two (((w.alloc (.cells #[.string s, .int .i64 p, .bool wh] 213)).alloc (.cells #[.int .i64 i, .int .i64 j] 128)).alloc (.cells #[.int .i64 0, .int .i64 0, .bool false] 186)) (w.heap.size + 1) i j := Two.alloc (by have := Two.new (w.alloc (.cells #[.string s, .int .i64 p, .bool wh] 213)) i j 128; simpa using this) _
  have Q : Tre (((w.alloc (.cells #[.string s, .int .i64 p, .bool wh] 213)).alloc (.cells #[.int .i64 i, .int .i64 j] 128)).alloc (.cells #[.int .i64 0, .int .i64 0, .bool false] 186)) (w.heap.size + 1 + 1) 0 0 false := by have := Tre.new ((w.alloc (.cells #[.string s, .int .i64 p, .bool wh] 213)).alloc (.cells #[.int .i64 i, .int .i64 j] 128)) 0 0 false 186; simpa using this
  go_wp2_with fail
  refine (HR1.out _).mono ?_
  rintro r1 w1 ⟨rfl, h1⟩
  obtain ⟨hc1, hf1, hz1⟩ := qb h1
  (try simp at hz1)
  have G1 : Tri w1 (w.heap.size) (s) (p) (wh) := qTi
  have ⟨G1_0, G1_1, G1_2, G1_z, G1_l⟩ := G1
  have T1 : Two w1 (w.heap.size + 1) (i) (j) := qTw
  have ⟨T1_0, T1_1, T1_z, T1_l⟩ := T1
  have Q1 : Tre w1 (w.heap.size + 1 + 1) (0) (0) (false) := qTe
  have ⟨Q1_0, Q1_1, Q1_2, Q1_z, Q1_l⟩ := Q1
  clear hc1 hf1
  have E : Two (w1.alloc (.cells #[.int .i64 c, .int .i64 c] 128)) w1.heap.size c c := Two.new _ _ _ _
  go_wp2_with fail
  refine (HE.out _).mono ?_
  rintro r2 w2 ⟨rfl, h2⟩
  obtain ⟨hc2, hf2, hz2⟩ := qb h2
  (try simp at hz2)
  have G2 : Tri w2 (w.heap.size) (s) (p) (wh) := qTi
  have ⟨G2_0, G2_1, G2_2, G2_z, G2_l⟩ := G2
  have T2 : Two w2 (w.heap.size + 1) (i) (j) := qTw
  have ⟨T2_0, T2_1, T2_z, T2_l⟩ := T2
  have Q2 : Tre w2 (w.heap.size + 1 + 1) (0) (0) (false) := qTe
  have ⟨Q2_0, Q2_1, Q2_2, Q2_z, Q2_l⟩ := Q2
  have E2 : Two w2 (w1.heap.size) (c) (c) := qTw
  have ⟨E2_0, E2_1, E2_z, E2_l⟩ := E2
  clear hc2 hf2
  go_wp2
  exact qV (.tuple #[.agg #[.int .i64 0, .int .i64 0, .bool false], .bool false]) (by simp [results, results258, go_sem, Q2_0, Q2_1, Q2_2, Q2_z, Q2_l]) rfl
 ·have HE : qH 185 #[.agg #[.int .i64 (c), .int .i64 (d)]] (.bool false) := fun ww => tEmpty_ne c d ww hcd
  have HJ : qH 196 #[.agg #[.int .i64 (i), .int .i64 (j)], .agg #[.int .i64 (c), .int .i64 (d)]] (.agg #[.int .i64 (((min i c : Nat) : Int)), .int .i64 (((max j d : Nat) : Int))]) := fun ww => tJoin_nat i j c d ww
  refine ⟨min i c, max j d, true, by omega, by omega, fun w => ?_⟩
  generalize ((min i c : Nat) : Int) = U at *
  generalize ((max j d : Nat) : Int) = V at *
  go_enter func258, ntmps258
  have G : Tri (((w.alloc (.cells #[.string s, .int .i64 p, .bool wh] 213)).alloc (.cells #[.int .i64 i, .int .i64 j] 128)).alloc (.cells #[.int .i64 0, .int .i64 0, .bool false] 186)) w.heap.size s p wh := Tri.alloc (Tri.alloc (Tri.new _ _ _ _ _) _) _
  have T : Two (((w.alloc (.cells #[.string s, .int .i64 p, .bool wh] 213)).alloc (.cells #[.int .i64 i, .int .i64 j] 128)).alloc (.cells #[.int .i64 0, .int .i64 0, .bool false] 186)) (w.heap.size + 1) i j := Two.alloc (by have := Two.new (w.alloc (.cells #[.string s, .int .i64 p, .bool wh] 213)) i j 128; simpa using this) _
  have Q : Tre (((w.alloc (.cells #[.string s, .int .i64 p, .bool wh] 213)).alloc (.cells #[.int .i64 i, .int .i64 j] 128)).alloc (.cells #[.int .i64 0, .int .i64 0, .bool false] 186)) (w.heap.size + 1 + 1) 0 0 false := by have := Tre.new ((w.alloc (.cells #[.string s, .int .i64 p, .bool wh] 213)).alloc (.cells #[.int .i64 i, .int .i64 j] 128)) 0 0 false 186; simpa using this
  go_wp2_with fail
  refine (HR1.out _).mono ?_
  rintro r1 w1 ⟨rfl, h1⟩
  obtain ⟨hc1, hf1, hz1⟩ := qb h1
  (try simp at hz1)
  have G1 : Tri w1 (w.heap.size) (s) (p) (wh) := qTi
  have ⟨G1_0, G1_1, G1_2, G1_z, G1_l⟩ := G1
  have T1 : Two w1 (w.heap.size + 1) (i) (j) := qTw
  have ⟨T1_0, T1_1, T1_z, T1_l⟩ := T1
  have Q1 : Tre w1 (w.heap.size + 1 + 1) (0) (0) (false) := qTe
  have ⟨Q1_0, Q1_1, Q1_2, Q1_z, Q1_l⟩ := Q1
  clear hc1 hf1
  have E : Two (w1.alloc (.cells #[.int .i64 c, .int .i64 d] 128)) w1.heap.size c d := Two.new _ _ _ _
  go_wp2_with fail
  refine (HE.out _).mono ?_
  rintro r2 w2 ⟨rfl, h2⟩
  obtain ⟨hc2, hf2, hz2⟩ := qb h2
  (try simp at hz2)
  have G2 : Tri w2 (w.heap.size) (s) (p) (wh) := qTi
  have ⟨G2_0, G2_1, G2_2, G2_z, G2_l⟩ := G2
  have T2 : Two w2 (w.heap.size + 1) (i) (j) := qTw
  have ⟨T2_0, T2_1, T2_z, T2_l⟩ := T2
  have Q2 : Tre w2 (w.heap.size + 1 + 1) (0) (0) (false) := qTe
  have ⟨Q2_0, Q2_1, Q2_2, Q2_z, Q2_l⟩ := Q2
  have E2 : Two w2 (w1.heap.size) (c) (d) := qTw
  have ⟨E2_0, E2_1, E2_z, E2_l⟩ := E2
  clear hc2 hf2
  go_wp2_with fail
  refine (HJ.out _).mono ?_
  rintro r3 w3 ⟨rfl, h3⟩
  obtain ⟨hc3, hf3, hz3⟩ := qb h3
  (try simp at hz3)
  have G3 : Tri w3 (w.heap.size) (s) (p) (wh) := qTi
  have ⟨G3_0, G3_1, G3_2, G3_z, G3_l⟩ := G3
  have T3 : Two w3 (w.heap.size + 1) (i) (j) := qTw
  have ⟨T3_0, T3_1, T3_z, T3_l⟩ := T3
  have Q3 : Tre w3 (w.heap.size + 1 + 1) (0) (0) (false) := qTe
  have ⟨Q3_0, Q3_1, Q3_2, Q3_z, Q3_l⟩ := Q3
  have E3 : Two w3 (w1.heap.size) (c) (d) := qTw
  have ⟨E3_0, E3_1, E3_z, E3_l⟩ := E3
  clear hc3 hf3
  go_wp2
  exact qV (.tuple #[.agg #[.int .i64 U, .int .i64 V, .bool false], .bool true]) (by simp [results, results258, go_sem, Q3_0, Q3_1, Q3_2, Q3_z, Q3_l]) rfl
