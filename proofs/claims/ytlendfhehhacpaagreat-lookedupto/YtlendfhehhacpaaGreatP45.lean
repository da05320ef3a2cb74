/- Joined of the texts ModesP, MapA, MapB, VerbsA, VerbsB. -/
import Derived.Test.YtlendfhehhacpaaGreatP11
import Derived.Maps.Keyed
import Derived.Test.YtlendfhehhacpaaGreatP37
import Derived.Test.YtlendfhehhacpaaGreatP05
set_option linter.unusedVariables false
set_option linter.unusedSimpArgs false
set_option maxRecDepth 100000
set_option maxHeartbeats 8000000
namespace Go.Proofs.YtlendfhehhacpaaGreat
open Go.RowKit
theorem zero_register (w : World) : (zeroValue 99).run Tryz.prog w = .ok (.agg #[.string ⟨#[]⟩, .bool false]) w := by kernel_rfl
theorem check_u8 (e : Bool) (n : Nat) (c : Int) (w : World) : (Instr.checkKey e (n + 1) 5 (.int .u8 c)).run Tryz.prog w = .ok () w := by
  rw [Instr.checkKey]
  simp [run_underlying Tryz.underlying5]
def keyIs : Value → Int → Bool
  | .int .u8 d, c => d == c
  | _, _ => false
def rgFind : List MapEntry → Int → Nat → Option (Nat × Value)
  | [], _, _ => none
  | e :: es, c, i => if keyIs e.key c = true then some (i, e.val) else rgFind es c (i + 1)
def RgOk (es : List MapEntry) : Prop := ∀ e ∈ es, ∃ (c : Int) (t : ByteArray) (l : Bool), e.key = .int .u8 c ∧ e.val = .agg #[.string t, .bool l]
theorem rgNow (c : Int) : ∀ (es : List MapEntry) (i : Nat), RgOk es → Instr.findNow (.int .u8) (.int .u8 c) es i = some (rgFind es c i)
  | [], _, _ => rfl
  | e :: es, i, h => by
    obtain ⟨d, t, l, hk, hv⟩ := h e (by simp)
    have ih := rgNow c es (i + 1) (fun x hx => h x (by simp [hx]))
    unfold Instr.findNow rgFind
    rw [hk]
    by_cases hcd : c = d
    · subst hcd; simp [Instr.sameNow, keyIs]
    · have h1 : (c == d) = false := by simpa using hcd
      have h2 : (d == c) = false := by simpa using Ne.symm hcd
      simp [Instr.sameNow, h1, ih, keyIs, h2]
theorem rg_find (c : Int) (es : List MapEntry) (h : RgOk es) (w : World) : (Instr.findKey 5 (.int .u8 c) es).run Tryz.prog w = .ok (rgFind es c 0) w := by
  unfold Instr.findKey
  simp [run_underlying Tryz.underlying5, rgNow c es 0 h]
def rgVal : Option (Nat × Value) → Value
  | some (_, v) => v
  | none => .agg #[.string ⟨#[]⟩, .bool false]
theorem rg_look (m k : Nat) (c : Int) (es : Array MapEntry) (w : World) (hh : w.heap[m]? = some (.map es k)) (h : RgOk es.toList) : (Instr.lookup 90 (.map (some m)) (.int .u8 c) false).run Tryz.prog w = .ok (rgVal (rgFind es.toList c 0)) w := by
  have hck : ∀ e w, (Instr.checkKey e 10000 5 (.int .u8 c)).run Tryz.prog w = .ok () w := fun e w => check_u8 e 9999 c w
  have hfk := fun w => rg_find c es.toList h w
  unfold Instr.lookup
  cases hf : rgFind es.toList c 0 with
  | none => rw [hf] at hfk; simp [run_underlying Tryz.underlying90, MapKept.run_getObj_map hh, hck, hfk, zero_register, Result.andThen, rgVal]
  | some x => rw [hf] at hfk; simp [run_underlying Tryz.underlying90, MapKept.run_getObj_map hh, hck, hfk, zero_register, Result.andThen, rgVal]
theorem rgFind_some {c : Int} : ∀ {es : List MapEntry} {i j : Nat} {v : Value}, RgOk es → rgFind es c i = some (j, v) → i ≤ j ∧ ∃ e, es[j - i]? = some e ∧ e.key = .int .u8 c
  | [], _, _, _, _, h => by simp [rgFind] at h
  | e :: es, i, j, v, ho, h => by
    unfold rgFind at h
    obtain ⟨d, t, l, hk, hv⟩ := ho e (by simp)
    split at h
    · rename_i hc
      injection h with h; injection h with h1 h2
      subst h1
      rw [hk] at hc
      have : d = c := by simpa [keyIs] using hc
      exact ⟨Nat.le_refl _, e, by simp, by rw [hk, this]⟩
    · obtain ⟨h1, x, h2, h3⟩ := rgFind_some (fun x hx => ho x (by simp [hx])) h
      refine ⟨by omega, x, ?_, h3⟩
      rw [show j - i = (j - (i + 1)) + 1 by omega, List.getElem?_cons_succ]
      exact h2
theorem rgFind_push {c d : Int} {v : Value} {b : Nat} : ∀ {es : List MapEntry} {i : Nat}, rgFind es c i = none → rgVal (rgFind (es ++ [{ key := .int .u8 c, val := v, born := b }]) d i) = if d = c then v else rgVal (rgFind es d i)
  | [], i, _ => by
    by_cases h : d = c
    · subst h; simp [rgFind, keyIs, rgVal]
    · have : (c == d) = false := by simpa using Ne.symm h
      simp [rgFind, keyIs, rgVal, h, this]
  | e :: es, i, hn => by
    unfold rgFind at hn
    split at hn
    · simp at hn
    · rename_i hc
      have ih := rgFind_push (v := v) (b := b) (d := d) hn
      simp only [List.cons_append]
      unfold rgFind
      by_cases hd : keyIs e.key d = true
      · rw [if_pos hd, if_pos hd]
        have : d ≠ c := by intro h; subst h; exact hc hd
        rw [if_neg this]
      · rw [if_neg hd, if_neg hd]; exact ih
theorem rgFind_set {c d : Int} {v : Value} : ∀ {es : List MapEntry} {i j : Nat} {x : Value}, rgFind es c i = some (j, x) → rgVal (rgFind (es.modify (j - i) fun e => { e with key := .int .u8 c, val := v }) d i) = if d = c then v else rgVal (rgFind es d i)
  | [], _, _, _, h => by simp [rgFind] at h
  | e :: es, i, j, x, h => by
    unfold rgFind at h
    split at h
    · rename_i hc
      injection h with h; injection h with h1 h2
      subst h1
      rw [Nat.sub_self]
      simp only [List.modify_zero_cons]
      unfold rgFind
      by_cases hd : d = c
      · subst hd; simp [keyIs, rgVal]
      · have h1 : (c == d) = false := by simpa using Ne.symm hd
        have h0 : keyIs (.int .u8 c) d = false := h1
        have : keyIs e.key d = false := by
          cases hk : e.key with
          | int k n => cases k <;> simp_all [keyIs]
          | _ => simp_all [keyIs]
        simp [h0, this, hd]
    · rename_i hc
      have hj : i + 1 ≤ j := by
        clear hc
        have : ∀ {es : List MapEntry} {i j : Nat} {x : Value}, rgFind es c i = some (j, x) → i ≤ j := by
          intro es
          induction es with
          | nil => intro i j x h; simp [rgFind] at h
          | cons e es ih =>
            intro i j x h
            unfold rgFind at h
            split at h
            · injection h with h; injection h with h1 h2; omega
            · have := ih h; omega
        exact this h
      have ih := rgFind_set (v := v) (d := d) h
      rw [show j - i = (j - (i + 1)) + 1 by omega, List.modify_succ_cons]
      unfold rgFind
      by_cases hd : keyIs e.key d = true
      · rw [if_pos hd, if_pos hd]
        have : d ≠ c := by intro h; subst h; exact hc hd
        rw [if_neg this]
      · rw [if_neg hd, if_neg hd]; exact ih
theorem rgOk_modify {c : Int} {t : ByteArray} {l : Bool} : ∀ (es : List MapEntry) (j : Nat), RgOk es → RgOk (es.modify j fun e => { e with key := .int .u8 c, val := .agg #[.string t, .bool l] })
  | [], j, h => by simpa using h
  | e :: es, 0, h => by
    intro x hx
    rw [List.modify_zero_cons] at hx
    rcases List.mem_cons.1 hx with rfl | hx
    · exact ⟨c, t, l, rfl, rfl⟩
    · exact h x (by simp [hx])
  | e :: es, j + 1, h => by
    intro x hx
    rw [List.modify_succ_cons] at hx
    rcases List.mem_cons.1 hx with rfl | hx
    · exact h _ (by simp)
    · exact rgOk_modify es j (fun y hy => h y (by simp [hy])) x hx
theorem rg_update (m k : Nat) (c : Int) (t : ByteArray) (l : Bool) (es : Array MapEntry) (w : World) (hh : w.heap[m]? = some (.map es k)) (h : RgOk es.toList) :
    ∃ (es' : Array MapEntry) (k' : Nat), (Instr.mapUpdate 90 (.map (some m)) (.int .u8 c) (.agg #[.string t, .bool l])).run Tryz.prog w = .ok () { w with heap := w.heap.setIfInBounds m (.map es' k') } ∧ RgOk es'.toList ∧
      ∀ d, rgVal (rgFind es'.toList d 0) = if d = c then .agg #[.string t, .bool l] else rgVal (rgFind es.toList d 0) := by
  have hck : ∀ e w, (Instr.checkKey e 10000 5 (.int .u8 c)).run Tryz.prog w = .ok () w := fun e w => check_u8 e 9999 c w
  have hfk := fun w => rg_find c es.toList h w
  have hso := fun o => MapKept.run_setObj_map (P := Tryz.prog) o hh
  cases hf : rgFind es.toList c 0 with
  | none =>
    rw [hf] at hfk
    refine ⟨es.push { key := .int .u8 c, val := .agg #[.string t, .bool l], born := k }, k + 1, ?_, ?_, ?_⟩
    · unfold Instr.mapUpdate
      simp [run_underlying Tryz.underlying90, MapKept.run_getObj_map hh, hck, hfk, hso, Result.andThen]
    · intro e he
      simp only [Array.toList_push, List.mem_append, List.mem_singleton] at he
      rcases he with he | rfl
      · exact h e he
      · exact ⟨c, t, l, rfl, rfl⟩
    · intro d
      rw [Array.toList_push]
      exact rgFind_push hf
  | some y =>
    obtain ⟨j, x⟩ := y
    rw [hf] at hfk
    obtain ⟨_, e0, he0, hk0⟩ := rgFind_some h hf
    rw [Nat.sub_zero] at he0
    have he1 : es[j]? = some e0 := by simpa using he0
    refine ⟨es.modify j fun e => { e with key := .int .u8 c, val := .agg #[.string t, .bool l] }, k, ?_, ?_, ?_⟩
    · unfold Instr.mapUpdate
      simp [run_underlying Tryz.underlying90, MapKept.run_getObj_map hh, hck, hfk, hso, Result.andThen, he1, hk0, Instr.keyThatStays, Instr.sameBits]
    · intro e he
      rw [Array.toList_modify] at he
      exact rgOk_modify es.toList j h e he
    · intro d
      rw [Array.toList_modify]
      have := rgFind_set (v := .agg #[.string t, .bool l]) (d := d) hf
      rw [Nat.sub_zero] at this
      exact this
structure RgAt (w : World) (m : Nat) (f : Int → Value) : Prop where
  out : ∃ (es : Array MapEntry) (k : Nat), w.heap[m]? = some (.map es k) ∧ RgOk es.toList ∧ ∀ d, rgVal (rgFind es.toList d 0) = f d
def rgSet (f : Int → Value) (c : Int) (v : Value) : Int → Value := fun d => if d = c then v else f d
theorem RgAt.lt {w : World} {m : Nat} {f : Int → Value} (h : RgAt w m f) : m < w.heap.size := by
  obtain ⟨es, k, h1, _⟩ := h.out
  exact (Array.getElem?_eq_some_iff.1 h1).1
theorem RgAt.update {w : World} {m : Nat} {f : Int → Value} (h : RgAt w m f) (c : Int) (t : ByteArray) (l : Bool) :
    ∃ w' : World, (Instr.mapUpdate 90 (.map (some m)) (.int .u8 c) (.agg #[.string t, .bool l])).run Tryz.prog w = .ok () w' ∧ RgAt w' m (rgSet f c (.agg #[.string t, .bool l])) ∧ Upd [m] w w' := by
  obtain ⟨es, k, h1, h2, h3⟩ := h.out
  obtain ⟨es', k', g1, g2, g3⟩ := rg_update m k c t l es w h1 h2
  have hl := h.lt
  refine ⟨_, g1, ⟨es', k', by simp [hl], g2, ?_⟩, ?_⟩
  · intro d
    rw [g3 d]
    unfold rgSet
    split
    · rfl
    · exact h3 d
  · refine ⟨rfl, rfl, rfl, by simp, fun i hi hn => ?_⟩
    have : m ≠ i := by intro e; subst e; exact hn (by simp)
    exact Array.getElem?_setIfInBounds_ne this
theorem RgAt.of_block {w w' : World} {m : Nat} {f : Int → Value} (h : RgAt w m f) (hb : w'.heap[m]? = w.heap[m]?) : RgAt w' m f := by
  obtain ⟨es, k, h1, h2⟩ := h.out
  exact ⟨es, k, hb.trans h1, h2⟩
theorem RgAt.below {w w' : World} {m : Nat} {f : Int → Value} (h : RgAt w m f) (hb : Below w.heap.size w w') : RgAt w' m f := h.of_block (hb.block m h.lt)
theorem RgAt.alloc {w : World} {m : Nat} {f : Int → Value} (h : RgAt w m f) (o : Obj) : RgAt (w.alloc o) m f := h.below ((Below.refl _ _).alloc (Nat.le_refl _) _)
theorem RgAt.drew {w : World} {m : Nat} {f : Int → Value} (h : RgAt w m f) : RgAt w.drew m f := h.below (Below.refl _ _).drew
theorem RgAt.drewN {w : World} {m : Nat} {f : Int → Value} (h : RgAt w m f) (n : Nat) : RgAt (w.drewN n) m f := h.below (below_drewN (Below.refl _ _) _)
theorem RgAt.other {w : World} {m : Nat} {f : Int → Value} (h : RgAt w m f) {q : Addr} (hp : m ≠ q.block) (u : Value) : RgAt (w.setCell q u) m f := h.of_block (Below.heap_setCell _ _ _ _ hp)
theorem rWrite_none (m : Nat) (t : ByteArray) (l : Bool) (f : Int → Value) (w : World) (h : RgAt w m f) :
    Calls Tryz.prog 177 #[.map (some m), .int .u8 0, .agg #[.string t, .bool l]] w fun e w' => e = .returned (.tuple #[]) ∧ RgAt w' m (rgSet f 34 (.agg #[.string t, .bool l])) ∧ Upd [m] w w' := by
  obtain ⟨w1, g1, g2, g3⟩ := (h.alloc (.cells #[.string t, .bool l] 99)).update 34 t l
  clear h
  go_enter Tryz.func177, Tryz.ntmps177
  go_wp2
  go_end0
  exact ⟨rfl, g2, (Upd.alloc (Upd.refl _ _) _).trans g3⟩
theorem rWrite_named (m : Nat) (c : Int) (t : ByteArray) (l : Bool) (f : Int → Value) (w : World) (h : RgAt w m f) (hc : c ≠ 0) :
    Calls Tryz.prog 177 #[.map (some m), .int .u8 c, .agg #[.string t, .bool l]] w fun e w' => e = .returned (.tuple #[]) ∧ RgAt w' m (rgSet (rgSet f 34 (.agg #[.string t, .bool l])) c (.agg #[.string t, .bool l])) ∧ Upd [m] w w' := by
  obtain ⟨w1, g1, g2, g3⟩ := (h.alloc (.cells #[.string t, .bool l] 99)).update 34 t l
  obtain ⟨w2, k1, k2, k3⟩ := g2.update c t l
  have hl := h.lt
  have hb := g3.block w.heap.size (by simp) (by simp; omega)
  have c0 : w1.cell? ⟨w.heap.size, 0, none⟩ = some (.string t) := (World.cell?_of_block (w := w.alloc (.cells #[.string t, .bool l] 99)) hb).trans (by simp)
  have c1 : w1.cell? ⟨w.heap.size, 1, none⟩ = some (.bool l) := (World.cell?_of_block (w := w.alloc (.cells #[.string t, .bool l] 99)) hb).trans (by simp)
  clear h hb
  go_enter Tryz.func177, Tryz.ntmps177
  go_wp2
  go_end0
  exact ⟨rfl, k2, ((Upd.alloc (Upd.refl _ _) _).trans g3).trans k3⟩
theorem vBack_piece (s : ByteArray) (a b p : Int) (w : World) :
    Calls Tryz.prog 221 #[.string s, .agg #[.int .i64 a, .int .i64 b, .bool false], .int .i64 p] w fun e w' => e = .returned (.int .i64 a) ∧ Below w.heap.size w w' := by
  go_enter Tryz.func221, Tryz.ntmps221
  go_wp2
  refine bodyPost_ret (v := .int .i64 a) (by simp [results, Tryz.results221, go_sem]) rfl ⟨rfl, ?_⟩
  repeat (with_reducible first | exact Below.refl _ _ | refine b_s ?_ _ | refine b_a ?_ _ | refine Below.drew ?_ | refine below_drewN ?_ _)
theorem vWrites_any (c : Int) (w : World) :
    Calls Tryz.prog 176 #[.int .u8 c] w fun e w' => e = .returned (.bool (c == 100 || c == 99 || c == 121)) ∧ Below w.heap.size w w' := by
  go_enter Tryz.func176, Tryz.ntmps176
  go_wp2
  · refine bodyPost_ret (v := .bool true) (by simp [results, Tryz.results176, go_sem]) rfl ⟨by rename_i h; simp [h], ?_⟩
    repeat (with_reducible first | exact Below.refl _ _ | refine b_s ?_ _ | refine b_a ?_ _ | refine Below.drew ?_ | refine below_drewN ?_ _)
  · refine bodyPost_ret (v := .bool true) (by simp [results, Tryz.results176, go_sem]) rfl ⟨by rename_i h; simp [h], ?_⟩
    repeat (with_reducible first | exact Below.refl _ _ | refine b_s ?_ _ | refine b_a ?_ _ | refine Below.drew ?_ | refine below_drewN ?_ _)
  · refine bodyPost_ret (v := .bool (c == 100 || c == 99 || c == 121)) (by simp [results, Tryz.results176, go_sem]) rfl ⟨rfl, ?_⟩
    repeat (with_reducible first | exact Below.refl _ _ | refine b_s ?_ _ | refine b_a ?_ _ | refine Below.drew ?_ | refine below_drewN ?_ _)
theorem vBack_lines (s : ByteArray) (a p : Nat) (b : Int) (w : World) (hs : s.size ≤ 1000) (ha : a ≤ s.size) (hp : p ≤ s.size) :
    Calls Tryz.prog 221 #[.string s, .agg #[.int .i64 a, .int .i64 b, .bool true], .int .i64 p] w fun e w' => e = .returned (.int .i64 (if Nib.beg s a = Nib.beg s p ∧ Nib.fin s a = Nib.fin s p then (p : Int) else min (Nib.beg s a + (p - Nib.beg s p)) (max (Nib.beg s a) (Nib.fin s a - 1)))) ∧ Below w.heap.size w w' := by
  have G1 : Hid (∀ ww, Calls Tryz.prog 195 #[.string s, .int .i64 a] ww fun e w' => e = .returned (.agg #[.int .i64 (Nib.beg s a), .int .i64 (Nib.fin s a)]) ∧ Below ww.heap.size ww w') := fun ww => tLine_any s a a ww hs rfl ha
  have G2 : Hid (∀ ww, Calls Tryz.prog 195 #[.string s, .int .i64 p] ww fun e w' => e = .returned (.agg #[.int .i64 (Nib.beg s p), .int .i64 (Nib.fin s p)]) ∧ Below ww.heap.size ww w') := fun ww => tLine_any s p p ww hs rfl hp
  have e1 := Nib.beg_le s p
  have e2 := Nib.beg_le s a
  have e3 := Nib.fin_le ha
  generalize Nib.beg s a = A at *
  generalize Nib.fin s a = B at *
  generalize Nib.beg s p = C at *
  generalize Nib.fin s p = D at *
  by_cases hx : A = C ∧ B = D
  · rw [if_pos hx]
    have HQ : ∀ ww, (binOp .eql 128 (.agg #[.int .i64 (A), .int .i64 (B)]) (.agg #[.int .i64 (C), .int .i64 (D)])).run Tryz.prog ww = .ok (.bool true) ww := by intro ww; rw [eql_two]; simp [hx]
    clear hx
    go_enter Tryz.func221, Tryz.ntmps221
    go_wp2_with fail
    refine (G1.out _).mono ?_
    rintro e w1 ⟨rfl, h1⟩
    obtain ⟨hc1, hf1⟩ := bcell h1
    have hz1 := h1.size
    try simp at hz1
    go_wp2_with fail
    refine (G2.out _).mono ?_
    rintro e w2 ⟨rfl, h2⟩
    obtain ⟨hc2, hf2⟩ := bcell h2
    have hz2 := h2.size
    try simp at hz2
    clear hc1 hf1 hc2 hf2
    go_wp2
    refine bodyPost_ret (v := .int .i64 p) (by simp [results, Tryz.results221, go_sem]) rfl ⟨rfl, ?_⟩
    repeat (with_reducible first | exact Below.refl _ _ | refine b_s ?_ _ | refine b_a ?_ _ | refine Below.drew ?_ | refine below_drewN ?_ _ | refine b_t ?_ h2 | refine b_t ?_ h1)
  · rw [if_neg hx]
    have HQ : ∀ ww, (binOp .eql 128 (.agg #[.int .i64 (A), .int .i64 (B)]) (.agg #[.int .i64 (C), .int .i64 (D)])).run Tryz.prog ww = .ok (.bool false) ww := by
      intro ww; rw [eql_two]; congr 2; simp only [Bool.and_eq_false_imp, beq_iff_eq, beq_eq_false_iff_ne]; omega
    have G3 : Hid (∀ ww, Calls Tryz.prog 245 #[.agg #[.int .i64 (A), .int .i64 (B)], .int .i64 ((p : Int) - C)] ww fun e w' => e = .returned (.int .i64 (min (A + (p - C)) (max (A : Int) (B - 1)))) ∧ Below ww.heap.size ww w') := fun ww => tColumn_any A B (p - C) ww (by omega) (by omega)
    generalize min ((A : Int) + (p - C)) (max (A : Int) (B - 1)) = X at *
    clear hx
    go_enter Tryz.func221, Tryz.ntmps221
    go_wp2_with fail
    refine (G1.out _).mono ?_
    rintro e w1 ⟨rfl, h1⟩
    obtain ⟨hc1, hf1⟩ := bcell h1
    have hz1 := h1.size
    try simp at hz1
    go_wp2_with fail
    refine (G2.out _).mono ?_
    rintro e w2 ⟨rfl, h2⟩
    obtain ⟨hc2, hf2⟩ := bcell h2
    have hz2 := h2.size
    try simp at hz2
    clear hc1 hf1 hc2 hf2
    go_wp2_with fail
    refine (G3.out _).mono ?_
    rintro e w3 ⟨rfl, h3⟩
    obtain ⟨hc3, hf3⟩ := bcell h3
    have hz3 := h3.size
    try simp at hz3
    go_wp2
    refine bodyPost_ret (v := .int .i64 X) (by simp [results, Tryz.results221, go_sem]) rfl ⟨rfl, ?_⟩
    repeat (with_reducible first | exact Below.refl _ _ | refine b_s ?_ _ | refine b_a ?_ _ | refine Below.drew ?_ | refine below_drewN ?_ _ | refine b_t ?_ h3 | refine b_t ?_ h2 | refine b_t ?_ h1)
theorem vDo_copy (s : ByteArray) (a b p r : Int) (l : Bool) (w : World)
    (HB : Hid (∀ ww, Calls Tryz.prog 221 #[.string s, .agg #[.int .i64 a, .int .i64 b, .bool l], .int .i64 p] ww fun e w' => e = .returned (.int .i64 r) ∧ Below ww.heap.size ww w')) :
    Calls Tryz.prog 174 #[.int .u8 121, .string s, .agg #[.int .i64 a, .int .i64 b, .bool l], .int .i64 p] w fun e w' => e = .returned (.tuple #[.string s, .int .i64 r]) ∧ Below w.heap.size w w' := by
  go_enter Tryz.func174, Tryz.ntmps174
  go_wp2_with fail
  refine (HB.out _).mono ?_
  rintro e w1 ⟨rfl, h1⟩
  obtain ⟨hc1, hf1⟩ := bcell h1
  have hz1 := h1.size
  try simp at hz1
  go_wp2
  refine bodyPost_ret (v := .tuple #[.string s, .int .i64 r]) (by simp [results, Tryz.results174, go_sem]) rfl ⟨rfl, ?_⟩
  repeat (with_reducible first | exact Below.refl _ _ | refine b_s ?_ _ | refine b_a ?_ _ | refine Below.drew ?_ | refine below_drewN ?_ _ | refine b_t ?_ h1)
theorem vWithout_piece (s : ByteArray) (i j : Nat) (w : World) (hs : s.size ≤ 1000) (h : i ≤ j) (hj : j ≤ s.size) :
    Calls Tryz.prog 218 #[.string s, .agg #[.int .i64 i, .int .i64 j, .bool false]] w fun e w' => e = .returned (.tuple #[.string (s.extract 0 i ++ s.extract j s.size), .int .i64 i]) ∧ Below w.heap.size w w' := by
  have HW : Hid (∀ ww, Calls Tryz.prog 192 #[.string s, .agg #[.int .i64 (i), .int .i64 (j)], .string ⟨#[]⟩] ww fun e w' => e = .returned (.string (s.extract 0 i ++ s.extract j s.size)) ∧ Below ww.heap.size ww w') := by
    intro ww
    have := tWith_any s ⟨#[]⟩ i j i j ww hs (by decide) rfl rfl h hj
    rw [show s.extract 0 i ++ (⟨#[]⟩ : ByteArray) = s.extract 0 i from ByteArray.append_empty] at this
    exact this
  generalize s.extract 0 i ++ s.extract j s.size = X at *
  go_enter Tryz.func218, Tryz.ntmps218
  go_wp2_with fail
  go_wp2_with fail
  go_region_held3 (fun ww => ww.cell? ⟨w.heap.size, 0, none⟩ = some (.int .i64 i) ∧ ww.cell? ⟨w.heap.size, 1, none⟩ = some (.int .i64 j)) ((refine ⟨?_, ?_⟩ <;> go_simp)) ((go_at_call 192; refine (HW.out _).mono ?_; rintro r1 w1 ⟨rfl, h1⟩; obtain ⟨hc1, hf1⟩ := bcell h1; have hz1 := h1.size; (try simp at hz1); (try have hl1_0 : w.heap.size < w1.heap.size := (by omega)); (try have hk1_0 : w.heap.size < w1.heap.size + 1 := (by omega))))
  go_wp2
  refine bodyPost_ret (v := .tuple #[.string X, .int .i64 i]) (by simp [results, Tryz.results218, go_sem]) rfl ⟨rfl, ?_⟩
  repeat (with_reducible first | exact Below.refl _ _ | refine b_s ?_ _ | refine b_a ?_ _ | refine Below.drew ?_ | refine below_drewN ?_ _ | refine b_t ?_ h1)
theorem mTaken_piece (s : ByteArray) (i j : Nat) (l : Bool) (w : World) (hs : s.size ≤ 1000) (h : i ≤ j) (hj : j ≤ s.size) :
    Calls Tryz.prog 173 #[.string s, .agg #[.int .i64 i, .int .i64 j, .bool l]] w fun e w' => e = .returned (.agg #[.string (s.extract i j ++ if l then ⟨#[10]⟩ else ⟨#[]⟩), .bool l]) ∧ Below w.heap.size w w' := by
  have HO : Hid (∀ ww, Calls Tryz.prog 87 #[.string s, .agg #[.int .i64 (i), .int .i64 (j)]] ww fun e w' => e = .returned (.string (s.extract i j)) ∧ Below ww.heap.size ww w') := fun ww => tOf_any s i j i j ww hs rfl rfl h hj
  have hz : (s.extract i j).size ≤ 1000 := by rw [ByteArray.size_extract]; omega
  generalize s.extract i j = X at *
  cases l
  · rw [if_neg (by simp), show X ++ (⟨#[]⟩ : ByteArray) = X from ByteArray.append_empty]
    go_enter Tryz.func173, Tryz.ntmps173
    go_wp2_with fail
    refine (HO.out _).mono ?_
    rintro e w1 ⟨rfl, h1⟩
    obtain ⟨hc1, hf1⟩ := bcell h1
    have hz1 := h1.size
    try simp at hz1
    have l1 : w.heap.size + 1 < w1.heap.size := by omega
    have z0 : ∀ o, w1.frozen? ⟨w.heap.size + 1, o, none⟩ = false := by intro o; rw [hf1 _ _ (by simp)]; first | (go_simp; done) | simp
    have c1 : w1.cell? ⟨w.heap.size + 1, 0, none⟩ = some (.string ⟨#[]⟩) := by rw [hc1 _ _ (by simp)]; first | (go_simp; done) | simp
    have c2 : w1.cell? ⟨w.heap.size + 1, 1, none⟩ = some (.bool false) := by rw [hc1 _ _ (by simp)]; first | (go_simp; done) | simp
    have c3 : w1.cell? ⟨w.heap.size, 2, none⟩ = some (.bool false) := by rw [hc1 _ _ (by simp; omega)]; first | (go_simp; done) | simp
    clear hc1 hf1
    go_wp2
    refine bodyPost_ret (v := .agg #[.string X, .bool false]) (by simp [results, Tryz.results173, go_sem, c1, c2, z0, l1]) rfl ⟨rfl, ?_⟩
    repeat (with_reducible first | exact Below.refl _ _ | refine b_s ?_ _ | refine b_a ?_ _ | refine Below.drew ?_ | refine below_drewN ?_ _ | refine b_t ?_ h1)
  · rw [if_pos rfl]
    have f1 : ¬ 9223372036854775807 < X.size + 1 := by omega
    go_enter Tryz.func173, Tryz.ntmps173
    go_wp2_with fail
    refine (HO.out _).mono ?_
    rintro e w1 ⟨rfl, h1⟩
    obtain ⟨hc1, hf1⟩ := bcell h1
    have hz1 := h1.size
    try simp at hz1
    have l1 : w.heap.size + 1 < w1.heap.size := by omega
    have z0 : ∀ o, w1.frozen? ⟨w.heap.size + 1, o, none⟩ = false := by intro o; rw [hf1 _ _ (by simp)]; first | (go_simp; done) | simp
    have c1 : w1.cell? ⟨w.heap.size + 1, 0, none⟩ = some (.string ⟨#[]⟩) := by rw [hc1 _ _ (by simp)]; first | (go_simp; done) | simp
    have c2 : w1.cell? ⟨w.heap.size + 1, 1, none⟩ = some (.bool false) := by rw [hc1 _ _ (by simp)]; first | (go_simp; done) | simp
    have c3 : w1.cell? ⟨w.heap.size, 2, none⟩ = some (.bool true) := by rw [hc1 _ _ (by simp; omega)]; first | (go_simp; done) | simp
    clear hc1 hf1
    go_wp2
    refine bodyPost_ret (v := .agg #[.string (X ++ ⟨#[10]⟩), .bool true]) (by simp [results, Tryz.results173, go_sem, c1, c2, z0, l1]) rfl ⟨rfl, ?_⟩
    repeat (with_reducible first | exact Below.refl _ _ | refine b_s ?_ _ | refine b_a ?_ _ | refine Below.drew ?_ | refine below_drewN ?_ _ | refine b_t ?_ h1)
end Go.Proofs.YtlendfhehhacpaaGreat
