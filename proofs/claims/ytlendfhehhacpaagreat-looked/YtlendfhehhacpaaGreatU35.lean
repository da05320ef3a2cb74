/- A part. -/
import Derived.Test.YtlendfhehhacpaaGreatU28
set_option linter.unusedVariables false
set_option linter.unusedSimpArgs false
set_option maxRecDepth 100000
set_option maxHeartbeats 8000000
namespace Go.Proofs.YtlendfhehhacpaaGreat
open Go.RowKit Nib Tryz
def keyIs : Value → Int → Bool
 | .int .u8 d, c => d == c
 | _, _ => false
def rgFind : List MapEntry → Int → Nat → Option (Nat × Value)
 | [], _, _ => none
 | e :: es, c, i => if keyIs e.key c = true then some (i, e.val) else rgFind es c (i + 1)
def RgOk (es : List MapEntry) : Prop := ∀ e ∈ es, ∃ (c : Int) (t : ByteArray) (l : Bool), e.key = .int .u8 c ∧ e.val = .agg #[.string t, .bool l]
theorem rgNow (c : Int) : ∀ (es : List MapEntry) (i : Nat), RgOk es → Instr.findNow (.int .u8) (.int .u8 c) es i = some (rgFind es c i)
 | [], _, _ => rfl
 | e :: es, i, h => by
  obtain ⟨d, t, l, hk, hv⟩ := h e qi
  have ih := rgNow c es (i + 1) (fun x hx => h x (by simp [hx]))
  unfold Instr.findNow rgFind
  rw [hk]
  by_cases hcd : c = d
  ·subst hcd; simp [Instr.sameNow, keyIs]
  ·have h1 : (c == d) = false := by simpa using hcd
   have h2 : (d == c) = false := by simpa using Ne.symm hcd
   simp [Instr.sameNow, h1, ih, keyIs, h2]
theorem rg_find (c : Int) (es : List MapEntry) (h : RgOk es) (w : World) : (Instr.findKey 5 (.int .u8 c) es).run Tryz.prog w = .ok (rgFind es c 0) w := by
 unfold Instr.findKey
 simp [run_underlying underlying5, rgNow c es 0 h]
def rgVal : Option (Nat × Value) → Value
 | some (_, v) => v
 | none => .agg #[.string ⟨#[]⟩, .bool false]
theorem rg_look (m k : Nat) (c : Int) (es : Array MapEntry) (w : World) (hh : w.heap[m]? = some (.map es k)) (h : RgOk es.toList) : (Instr.lookup 90 (.map (some m)) (.int .u8 c) false).run Tryz.prog w = .ok (rgVal (rgFind es.toList c 0)) w := by
 have hck : ∀ e w, (Instr.checkKey e 10000 5 (.int .u8 c)).run Tryz.prog w = .ok () w := fun e w => check_u8 e 9999 c w
 have hfk := fun w => rg_find c es.toList h w
 unfold Instr.lookup
 cases hf : rgFind es.toList c 0 with
 | none => rw [hf] at hfk; simp [run_underlying underlying90, MapKept.run_getObj_map hh, hck, hfk, zero_register, Result.andThen, rgVal]
 | some x => rw [hf] at hfk; simp [run_underlying underlying90, MapKept.run_getObj_map hh, hck, hfk, zero_register, Result.andThen, rgVal]
theorem rgFind_some {c : Int} : ∀ {es : List MapEntry} {i j : Nat} {v : Value}, RgOk es → rgFind es c i = some (j, v) → i ≤ j ∧ ∃ e, es[j - i]? = some e ∧ e.key = .int .u8 c
 | [], _, _, _, _, h => by simp [rgFind] at h
 | e :: es, i, j, v, ho, h => by
  unfold rgFind at h
  obtain ⟨d, t, l, hk, hv⟩ := ho e qi
  split at h
  ·rename_i hc
   injection h with h; injection h with h1 h2
   subst h1
   rw [hk] at hc
   have : d = c := by simpa [keyIs] using hc
   exact ⟨Nat.le_refl _, e, by simp, by rw [hk, this]⟩
  ·obtain ⟨h1, x, h2, h3⟩ := rgFind_some (fun x hx => ho x (by simp [hx])) h
   refine ⟨by omega, x, ?_, h3⟩
   rw [show j - i = (j - (i + 1)) + 1 by omega, List.getElem?_cons_succ]
   exact h2
theorem rgFind_push {c d : Int} {v : Value} {b : Nat} : ∀ {es : List MapEntry} {i : Nat}, rgFind es c i = none → rgVal (rgFind (es ++ [{ key := .int .u8 c, val := v, born := b }]) d i) = if d = c then v else rgVal (rgFind es d i)
 | [], i, _ => by
  by_cases h : d = c
  ·subst h; simp [rgFind, keyIs, rgVal]
  ·have : (c == d) = false := by simpa using Ne.symm h
   simp [rgFind, keyIs, rgVal, h, this]
 | e :: es, i, hn => by
  unfold rgFind at hn
  split at hn
  ·simp at hn
  ·rename_i hc
   have ih := rgFind_push (v := v) (b := b) (d := d) hn
   simp only [List.cons_append]
   unfold rgFind
   by_cases hd : keyIs e.key d = true
   ·rw [if_pos hd, if_pos hd]
    have : d ≠ c := by intro h; subst h; exact hc hd
    rw [if_neg this]
   ·rw [if_neg hd, if_neg hd]; exact ih
theorem rgFind_set {c d : Int} {v : Value} : ∀ {es : List MapEntry} {i j : Nat} {x : Value}, rgFind es c i = some (j, x) → rgVal (rgFind (es.modify (j - i) fun e => { e with key := .int .u8 c, val := v }) d i) = if d = c then v else rgVal (rgFind es d i)
 | [], _, _, _, h => by simp [rgFind] at h
 | e :: es, i, j, x, h => by
  unfold rgFind at h
  split at h
  ·rename_i hc
   injection h with h; injection h with h1 h2
   subst h1
   rw [Nat.sub_self]
   simp only [List.modify_zero_cons]
   unfold rgFind
   by_cases hd : d = c
   ·subst hd; simp [keyIs, rgVal]
   ·have h1 : (c == d) = false := by simpa using Ne.symm hd
    have h0 : keyIs (.int .u8 c) d = false := h1
    have : keyIs e.key d = false := by
     cases hk : e.key with
     | int k n => cases k <;> simp_all [keyIs]
     | _ => simp_all [keyIs]
    simp [h0, this, hd]
  ·rename_i hc
   have hj : i + 1 ≤ j := by
    clear hc
    have : ∀ {es : List MapEntry} {i j : Nat} {x : Value}, rgFind es c i = some (j, x) → i ≤ j := by
     intro es
     induction es with
     | nil => intro i j x h; simp [rgFind] at h
     | cons e es ih =>
      intro i j x h
      unfold rgFind at h
      split at h
      ·injection h with h; injection h with h1 h2; omega
      ·have := ih h; omega
    exact this h
   have ih := rgFind_set (v := v) (d := d) h
   rw [show j - i = (j - (i + 1)) + 1 by omega, List.modify_succ_cons]
   unfold rgFind
   by_cases hd : keyIs e.key d = true
   ·rw [if_pos hd, if_pos hd]
    have : d ≠ c := by intro h; subst h; exact hc hd
    rw [if_neg this]
   ·rw [if_neg hd, if_neg hd]; exact ih
theorem rgOk_modify {c : Int} {t : ByteArray} {l : Bool} : ∀ (es : List MapEntry) (j : Nat), RgOk es → RgOk (es.modify j fun e => { e with key := .int .u8 c, val := .agg #[.string t, .bool l] })
 | [], j, h => by simpa using h
 | e :: es, 0, h => by
  intro x hx
  rw [List.modify_zero_cons] at hx
  rcases List.mem_cons.1 hx with rfl | hx
  ·exact ⟨c, t, l, rfl, rfl⟩
  ·exact h x (by simp [hx])
 | e :: es, j + 1, h => by
  intro x hx
  rw [List.modify_succ_cons] at hx
  rcases List.mem_cons.1 hx with rfl | hx
  ·exact h _ qi
  ·exact rgOk_modify es j (fun y hy => h y (by simp [hy])) x hx
theorem rg_update (m k : Nat) (c : Int) (t : ByteArray) (l : Bool) (es : Array MapEntry) (w : World) (hh : w.heap[m]? = some (.map es k)) (h : RgOk es.toList) :
  ∃ (es' : Array MapEntry) (k' : Nat), (Instr.mapUpdate 90 (.map (some m)) (.int .u8 c) (.agg #[.string t, .bool l])).run Tryz.prog w = .ok () { w with heap := w.heap.setIfInBounds m (.map es' k') } ∧ RgOk es'.toList ∧
   ∀ d, rgVal (rgFind es'.toList d 0) = if d = c then .agg #[.string t, .bool l] else rgVal (rgFind es.toList d 0) := by
 have hck : ∀ e w, (Instr.checkKey e 10000 5 (.int .u8 c)).run Tryz.prog w = .ok () w := fun e w => check_u8 e 9999 c w
 have hfk := fun w => rg_find c es.toList h w
 have hso := fun o => MapKept.run_setObj_map (P := Tryz.prog) o hh
 cases hf : rgFind es.toList c 0 with
 | none =>
  rw [hf] at hfk
  refine ⟨es.push { key := .int .u8 c, val := .agg #[.string t, .bool l], born := k }, k + 1, ?_, ?_, ?_⟩
  ·unfold Instr.mapUpdate
   simp [run_underlying underlying90, MapKept.run_getObj_map hh, hck, hfk, hso, Result.andThen]
  ·intro e he
   simp only [Array.toList_push, List.mem_append, List.mem_singleton] at he
   rcases he with he | rfl
   ·exact h e he
   ·exact ⟨c, t, l, rfl, rfl⟩
  ·intro d
   rw [Array.toList_push]
   exact rgFind_push hf
 | some y =>
  obtain ⟨j, x⟩ := y
  rw [hf] at hfk
  obtain ⟨_, e0, he0, hk0⟩ := rgFind_some h hf
  rw [Nat.sub_zero] at he0
  have he1 : es[j]? = some e0 := by simpa using he0
  refine ⟨es.modify j fun e => { e with key := .int .u8 c, val := .agg #[.string t, .bool l] }, k, ?_, ?_, ?_⟩
  ·unfold Instr.mapUpdate
   simp [run_underlying underlying90, MapKept.run_getObj_map hh, hck, hfk, hso, Result.andThen, he1, hk0, Instr.keyThatStays, Instr.sameBits]
  ·intro e he
   rw [Array.toList_modify] at he
   exact rgOk_modify es.toList j h e he
  ·intro d
   rw [Array.toList_modify]
   have := rgFind_set (v := .agg #[.string t, .bool l]) (d := d) hf
   rw [Nat.sub_zero] at this
   exact this
structure RgAt (w : World) (m : Nat) (f : Int → Value) : Prop where
 out : ∃ (es : Array MapEntry) (k : Nat), w.heap[m]? = some (.map es k) ∧ RgOk es.toList ∧ ∀ d, rgVal (rgFind es.toList d 0) = f d
def rgSet (f : Int → Value) (c : Int) (v : Value) : Int → Value := fun d => if d = c then v else f d
theorem RgAt.lt {w : World} {m : Nat} {f : Int → Value} (h : RgAt w m f) : m < w.heap.size := by
 obtain ⟨es, k, h1, _⟩ := h.out
 exact (Array.getElem?_eq_some_iff.1 h1).1
theorem RgAt.update {w : World} {m : Nat} {f : Int → Value} (h : RgAt w m f) (c : Int) (t : ByteArray) (l : Bool) :
  ∃ w' : World, (Instr.mapUpdate 90 (.map (some m)) (.int .u8 c) (.agg #[.string t, .bool l])).run Tryz.prog w = .ok () w' ∧ RgAt w' m (rgSet f c (.agg #[.string t, .bool l])) ∧ Upd [m] w w' := by
 obtain ⟨es, k, h1, h2, h3⟩ := h.out
 obtain ⟨es', k', g1, g2, g3⟩ := rg_update m k c t l es w h1 h2
 have hl := h.lt
 refine ⟨_, g1, ⟨es', k', by simp [hl], g2, ?_⟩, ?_⟩
 ·intro d
  rw [g3 d]
  unfold rgSet
  split
  ·rfl
  ·exact h3 d
 ·refine ⟨rfl, rfl, rfl, by simp, fun i hi hn => ?_⟩
  have : m ≠ i := by intro e; subst e; exact hn qi
  exact Array.getElem?_setIfInBounds_ne this
theorem RgAt.of_block {w w' : World} {m : Nat} {f : Int → Value} (h : RgAt w m f) (hb : w'.heap[m]? = w.heap[m]?) : RgAt w' m f := by
 obtain ⟨es, k, h1, h2⟩ := h.out
 exact ⟨es, k, hb.trans h1, h2⟩
theorem RgAt.below {w w' : World} {m : Nat} {f : Int → Value} (h : RgAt w m f) (hb : Below w.heap.size w w') : RgAt w' m f := h.of_block (hb.block m h.lt)
theorem RgAt.alloc {w : World} {m : Nat} {f : Int → Value} (h : RgAt w m f) (o : Obj) : RgAt (w.alloc o) m f := h.below ((Below.refl _ _).alloc (Nat.le_refl _) _)
theorem RgAt.drew {w : World} {m : Nat} {f : Int → Value} (h : RgAt w m f) : RgAt w.drew m f := h.below (Below.refl _ _).drew
theorem RgAt.drewN {w : World} {m : Nat} {f : Int → Value} (h : RgAt w m f) (n : Nat) : RgAt (w.drewN n) m f := h.below (below_drewN (Below.refl _ _) _)
theorem RgAt.other {w : World} {m : Nat} {f : Int → Value} (h : RgAt w m f) {q : Addr} (hp : m ≠ q.block) (u : Value) : RgAt (w.setCell q u) m f := h.of_block (Below.heap_setCell _ _ _ _ hp)
theorem rWrite_none (m : Nat) (t : ByteArray) (l : Bool) (f : Int → Value) (w : World) (h : RgAt w m f) :
  Calls Tryz.prog 177 #[.map (some m), .int .u8 0, .agg #[.string t, .bool l]] w fun e w' => e = .returned (.tuple #[]) ∧ RgAt w' m (rgSet f 34 (.agg #[.string t, .bool l])) ∧ Upd [m] w w' := by
 obtain ⟨w1, g1, g2, g3⟩ := (h.alloc (.cells #[.string t, .bool l] 99)).update 34 t l
 clear h
 go_enter func177, ntmps177
 go_wp2
 go_end0
 exact ⟨rfl, g2, (Upd.alloc (Upd.refl _ _) _).trans g3⟩
theorem rWrite_named (m : Nat) (c : Int) (t : ByteArray) (l : Bool) (f : Int → Value) (w : World) (h : RgAt w m f) (hc : c ≠ 0) :
  Calls Tryz.prog 177 #[.map (some m), .int .u8 c, .agg #[.string t, .bool l]] w fun e w' => e = .returned (.tuple #[]) ∧ RgAt w' m (rgSet (rgSet f 34 (.agg #[.string t, .bool l])) c (.agg #[.string t, .bool l])) ∧ Upd [m] w w' := by
 obtain ⟨w1, g1, g2, g3⟩ := (h.alloc (.cells #[.string t, .bool l] 99)).update 34 t l
 obtain ⟨w2, k1, k2, k3⟩ := g2.update c t l
 have hl := h.lt
 have hb := g3.block w.heap.size qi qs
 have c0 : w1.cell? ⟨w.heap.size, 0, none⟩ = some (.string t) := (World.cell?_of_block (w := w.alloc (.cells #[.string t, .bool l] 99)) hb).trans qi
 have c1 : w1.cell? ⟨w.heap.size, 1, none⟩ = some (.bool l) := (World.cell?_of_block (w := w.alloc (.cells #[.string t, .bool l] 99)) hb).trans qi
 clear h hb
 go_enter func177, ntmps177
 go_wp2
 go_end0
 exact ⟨rfl, k2, ((Upd.alloc (Upd.refl _ _) _).trans g3).trans k3⟩
theorem bState (b r d : Nat) (tv : Value) (dg : ByteArray) (p : Pg) (w : World) (hb : BdAt w b r d tv dg) (h : RdAt w r d p) :
  qC 31 #[.pointer (some ⟨b, 0, none⟩)] w (.agg #[.string p.t, .int .i64 (p.pl : Nat), .int .i64 (p.anchor : Nat), .int .i64 p.mode, .bool (waits p)]) := by
 have HW : Hid (∀ ww, RdAt ww r d p → qC 39 #[.pointer (some ⟨r, 1, none⟩)] ww (.bool (waits p))) := fun ww hh => mWaiting r d p ww hh
 generalize waits p = N at *
 have H := h
 obtain ⟨c0, c1, c2, c3, c4, c5, c6, c7, c8, c9, fz, lt⟩ := h.dk
 have b0 := hb.c0
 have r0 := h.bg.c0
 have bl := hb.lt
 have rl := h.bg.lt
 clear c4 c5 c6 c7 c8 c9 h hb
 have l1 : d < w.heap.size + 1 := by omega
 have l2 : r < w.heap.size + 1 := by omega
 have l3 : b < w.heap.size + 1 := by omega
 have n1 : ¬ w.heap.size = d := by omega
 have n2 : ¬ d = w.heap.size := by omega
 have n3 : ¬ w.heap.size = r := by omega
 have n4 : ¬ r = w.heap.size := by omega
 have n5 : ¬ w.heap.size = b := by omega
 have n6 : ¬ b = w.heap.size := by omega
 go_enter func31, ntmps31
 go_wp2_with fail
 go_region_held3 (fun ww => ww.cell? ⟨b, 0, none⟩ = some (.pointer (some ⟨r, 0, none⟩)) ∧ ww.cell? ⟨r, 0, none⟩ = some (.pointer (some ⟨d, 0, none⟩)) ∧ ww.cell? ⟨d, 0, none⟩ = some (.string p.t) ∧ ww.cell? ⟨d, 1, none⟩ = some (.int .i64 (p.pl : Nat)) ∧ ww.cell? ⟨d, 2, none⟩ = some (.int .i64 (p.anchor : Nat)) ∧ ww.cell? ⟨d, 3, none⟩ = some (.int .i64 p.mode)) (exact qK) ((go_at_call 39; refine Calls.mono (HW.out _ qRd) ?_; rintro r1 w1 ⟨rfl, h1⟩; have hz1 := h1.size; (try simp at hz1); (try have ⟨hl1_0, hk1_0⟩ := qL b w1.heap.size); (try have ⟨hl1_1, hk1_1⟩ := qL d w1.heap.size); (try have ⟨hl1_2, hk1_2⟩ := qL r w1.heap.size); obtain ⟨hc1, hf1⟩ := bcell h1; have hn1_0 := (hc1 (w.heap.size) 0 qO).trans (show _ = some (.string ⟨#[]⟩) by simp); have hn1_1 := (hc1 (w.heap.size) 1 qO).trans (show _ = some (.int .i64 0) by simp); have hn1_2 := (hc1 (w.heap.size) 2 qO).trans (show _ = some (.int .i64 0) by simp); have hn1_3 := (hc1 (w.heap.size) 3 qO).trans (show _ = some (.int .i64 0) by simp); have hn1_4 := (hc1 (w.heap.size) 4 qO).trans (show _ = some (.bool false) by simp); have hq1 := fun o => (hf1 (w.heap.size) o qO).trans (show _ = false by simp); have hg1 : w.heap.size < w1.heap.size := qo; clear hc1 hf1))
 go_wp2
 exact qV (.agg #[.string p.t, .int .i64 (p.pl : Nat), .int .i64 (p.anchor : Nat), .int .i64 p.mode, .bool N]) (by simp [results, results31, go_sem, hn1_0, hn1_1, hn1_2, hn1_3, hn1_4]) rfl
