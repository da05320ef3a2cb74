/- A part. -/
import Derived.Test.YtlendfhehhacpaaGreatT11
import Derived.Laws.RangeString
set_option linter.unusedVariables false
set_option linter.unusedSimpArgs false
set_option maxRecDepth 100000
set_option maxHeartbeats 8000000
namespace Go.Proofs.YtlendfhehhacpaaGreat
open Go.RowKit Nib Tryz
def keyIs : Value → Int → Bool
 | .int .u8 d, c => d == c
 | _, _ => false
def rgFind : List MapEntry → Int → Nat → Option (Nat × Value)
 | [], _, _ => none
 | e :: es, c, i => if keyIs e.key c = true then some (i, e.val) else rgFind es c (i + 1)
def RgOk (es : List MapEntry) : Prop := ∀ e ∈ es, ∃ (c : Int) (t : ByteArray) (l : Bool), e.key = .int .u8 c ∧ e.val = .agg #[.string t, .bool l]
theorem rgNow (c : Int) : ∀ (es : List MapEntry) (i : Nat), RgOk es → Instr.findNow (.int .u8) (.int .u8 c) es i = some (rgFind es c i)
 | [], _, _ => rfl
 | e :: es, i, h => by
  obtain ⟨d, t, l, hk, hv⟩ := h e qi
  have ih := rgNow c es (i + 1) (fun x hx => h x (by simp [hx]))
  unfold Instr.findNow rgFind
  rw [hk]
  by_cases hcd : c = d
  ·subst hcd; simp [Instr.sameNow, keyIs]
  ·have h1 : (c == d) = false := by simpa using hcd
   have h2 : (d == c) = false := by simpa using Ne.symm hcd
   simp [Instr.sameNow, h1, ih, keyIs, h2]
theorem rg_find (c : Int) (es : List MapEntry) (h : RgOk es) (w : World) : (Instr.findKey 5 (.int .u8 c) es).run Tryz.prog w = .ok (rgFind es c 0) w := by
 unfold Instr.findKey
 simp [run_underlying underlying5, rgNow c es 0 h]
def rgVal : Option (Nat × Value) → Value
 | some (_, v) => v
 | none => .agg #[.string ⟨#[]⟩, .bool false]
theorem rg_look (m k : Nat) (c : Int) (es : Array MapEntry) (w : World) (hh : w.heap[m]? = some (.map es k)) (h : RgOk es.toList) : (Instr.lookup 90 (.map (some m)) (.int .u8 c) false).run Tryz.prog w = .ok (rgVal (rgFind es.toList c 0)) w := by
 have hck : ∀ e w, (Instr.checkKey e 10000 5 (.int .u8 c)).run Tryz.prog w = .ok () w := fun e w => check_u8 e 9999 c w
 have hfk := fun w => rg_find c es.toList h w
 unfold Instr.lookup
 cases hf : rgFind es.toList c 0 with
 | none => rw [hf] at hfk; simp [run_underlying underlying90, MapKept.run_getObj_map hh, hck, hfk, zero_register, Result.andThen, rgVal]
 | some x => rw [hf] at hfk; simp [run_underlying underlying90, MapKept.run_getObj_map hh, hck, hfk, zero_register, Result.andThen, rgVal]
theorem rgFind_some {c : Int} : ∀ {es : List MapEntry} {i j : Nat} {v : Value}, RgOk es → rgFind es c i = some (j, v) → i ≤ j ∧ ∃ e, es[j - i]? = some e ∧ e.key = .int .u8 c
 | [], _, _, _, _, h => by simp [rgFind] at h
 | e :: es, i, j, v, ho, h => by
  unfold rgFind at h
  obtain ⟨d, t, l, hk, hv⟩ := ho e qi
  split at h
  ·rename_i hc
   injection h with h; injection h with h1 h2
   subst h1
   rw [hk] at hc
   have : d = c := by simpa [keyIs] using hc
   exact ⟨Nat.le_refl _, e, by simp, by rw [hk, this]⟩
  ·obtain ⟨h1, x, h2, h3⟩ := rgFind_some (fun x hx => ho x (by simp [hx])) h
   refine ⟨by omega, x, ?_, h3⟩
   rw [show j - i = (j - (i + 1)) + 1 by omega, List.getElem?_cons_succ]
   exact h2
theorem rgFind_push {c d : Int} {v : Value} {b : Nat} : ∀ {es : List MapEntry} {i : Nat}, rgFind es c i = none → rgVal (rgFind (es ++ [{ key := .int .u8 c, val := v, born := b }]) d i) = if d = c then v else rgVal (rgFind es d i)
 | [], i, _ => by
  by_cases h : d = c
  ·subst h; simp [rgFind, keyIs, rgVal]
  ·have : (c == d) = false := by simpa using Ne.symm h
   simp [rgFind, keyIs, rgVal, h, this]
 | e :: es, i, hn => by
  unfold rgFind at hn
  split at hn
  ·simp at hn
  ·rename_i hc
   have ih := rgFind_push (v := v) (b := b) (d := d) hn
   simp only [List.cons_append]
   unfold rgFind
   by_cases hd : keyIs e.key d = true
   ·rw [if_pos hd, if_pos hd]
    have : d ≠ c := by intro h; subst h; exact hc hd
    rw [if_neg this]
   ·rw [if_neg hd, if_neg hd]; exact ih
theorem rgFind_set {c d : Int} {v : Value} : ∀ {es : List MapEntry} {i j : Nat} {x : Value}, rgFind es c i = some (j, x) → rgVal (rgFind (es.modify (j - i) fun e => { e with key := .int .u8 c, val := v }) d i) = if d = c then v else rgVal (rgFind es d i)
 | [], _, _, _, h => by simp [rgFind] at h
 | e :: es, i, j, x, h => by
  unfold rgFind at h
  split at h
  ·rename_i hc
   injection h with h; injection h with h1 h2
   subst h1
   rw [Nat.sub_self]
   simp only [List.modify_zero_cons]
   unfold rgFind
   by_cases hd : d = c
   ·subst hd; simp [keyIs, rgVal]
   ·have h1 : (c == d) = false := by simpa using Ne.symm hd
    have h0 : keyIs (.int .u8 c) d = false := h1
    have : keyIs e.key d = false := by
     cases hk : e.key with
     | int k n => cases k <;> simp_all [keyIs]
     | _ => simp_all [keyIs]
    simp [h0, this, hd]
  ·rename_i hc
   have hj : i + 1 ≤ j := by
    clear hc
    have : ∀ {es : List MapEntry} {i j : Nat} {x : Value}, rgFind es c i = some (j, x) → i ≤ j := by
     intro es
     induction es with
     | nil => intro i j x h; simp [rgFind] at h
     | cons e es ih =>
      intro i j x h
      unfold rgFind at h
      split at h
      ·injection h with h; injection h with h1 h2; omega
      ·have := ih h; omega
    exact this h
   have ih := rgFind_set (v := v) (d := d) h
   rw [show j - i = (j - (i + 1)) + 1 by omega, List.modify_succ_cons]
   unfold rgFind
   by_cases hd : keyIs e.key d = true
   ·rw [if_pos hd, if_pos hd]
    have : d ≠ c := by intro h; subst h; exact hc hd
    rw [if_neg this]
   ·rw [if_neg hd, if_neg hd]; exact ih
theorem rgOk_modify {c : Int} {t : ByteArray} {l : Bool} : ∀ (es : List MapEntry) (j : Nat), RgOk es → RgOk (es.modify j fun e => { e with key := .int .u8 c, val := .agg #[.string t, .bool l] })
 | [], j, h => by simpa using h
 | e :: es, 0, h => by
  intro x hx
  rw [List.modify_zero_cons] at hx
  rcases List.mem_cons.1 hx with rfl | hx
  ·exact ⟨c, t, l, rfl, rfl⟩
  ·exact h x (by simp [hx])
 | e :: es, j + 1, h => by
  intro x hx
  rw [List.modify_succ_cons] at hx
  rcases List.mem_cons.1 hx with rfl | hx
  ·exact h _ qi
  ·exact rgOk_modify es j (fun y hy => h y (by simp [hy])) x hx
theorem rg_update (m k : Nat) (c : Int) (t : ByteArray) (l : Bool) (es : Array MapEntry) (w : World) (hh : w.heap[m]? = some (.map es k)) (h : RgOk es.toList) :
  ∃ (es' : Array MapEntry) (k' : Nat), (Instr.mapUpdate 90 (.map (some m)) (.int .u8 c) (.agg #[.string t, .bool l])).run Tryz.prog w = .ok () { w with heap := w.heap.setIfInBounds m (.map es' k') } ∧ RgOk es'.toList ∧
   ∀ d, rgVal (rgFind es'.toList d 0) = if d = c then .agg #[.string t, .bool l] else rgVal (rgFind es.toList d 0) := by
 have hck : ∀ e w, (Instr.checkKey e 10000 5 (.int .u8 c)).run Tryz.prog w = .ok () w := fun e w => check_u8 e 9999 c w
 have hfk := fun w => rg_find c es.toList h w
 have hso := fun o => MapKept.run_setObj_map (P := Tryz.prog) o hh
 cases hf : rgFind es.toList c 0 with
 | none =>
  rw [hf] at hfk
  refine ⟨es.push { key := .int .u8 c, val := .agg #[.string t, .bool l], born := k }, k + 1, ?_, ?_, ?_⟩
  ·unfold Instr.mapUpdate
   simp [run_underlying underlying90, MapKept.run_getObj_map hh, hck, hfk, hso, Result.andThen]
  ·intro e he
   simp only [Array.toList_push, List.mem_append, List.mem_singleton] at he
   rcases he with he | rfl
   ·exact h e he
   ·exact ⟨c, t, l, rfl, rfl⟩
  ·intro d
   rw [Array.toList_push]
   exact rgFind_push hf
 | some y =>
  obtain ⟨j, x⟩ := y
  rw [hf] at hfk
  obtain ⟨_, e0, he0, hk0⟩ := rgFind_some h hf
  rw [Nat.sub_zero] at he0
  have he1 : es[j]? = some e0 := by simpa using he0
  refine ⟨es.modify j fun e => { e with key := .int .u8 c, val := .agg #[.string t, .bool l] }, k, ?_, ?_, ?_⟩
  ·unfold Instr.mapUpdate
   simp [run_underlying underlying90, MapKept.run_getObj_map hh, hck, hfk, hso, Result.andThen, he1, hk0, Instr.keyThatStays, Instr.sameBits]
  ·intro e he
   rw [Array.toList_modify] at he
   exact rgOk_modify es.toList j h e he
  ·intro d
   rw [Array.toList_modify]
   have := rgFind_set (v := .agg #[.string t, .bool l]) (d := d) hf
   rw [Nat.sub_zero] at this
   exact this
def kBr : ByteArray := ⟨#[40, 41, 91, 93, 123, 125]⟩
theorem br_lt (i : Nat) (hi : i < kBr.size) : (kBr[i]'hi).toNat < 128 := by
 have hall : ∀ k : Fin 6, (kBr[k.1]'k.2).toNat < 128 := by decide
 exact hall ⟨i, hi⟩
theorem iter_below (w : World) (s : ByteArray) (p : Nat) : Below w.heap.size w (w.iter s p) := (Below.refl _ _).alloc (Nat.le_refl _) _
theorem idxRune_err (w : World) :
  qC 284 #[.string kBr, .int .i32 65533] w (.int .i64 (-1)) := by
 go_enter func284, ntmps284
 go_wp2
 go_loopg [5, 6] 6 (fun g _ _ wx => ∃ i : Nat, i + g = 6 ∧ wx = w.iter kBr i)
 case atStart => exact ⟨0, by omega, rfl⟩
 case round =>
  obtain ⟨i, hig, rfl⟩ := hrel
  cases gk with
  | zero =>
   obtain rfl : i = 6 := by omega
   have hnx := fun ty => run_next_end (P := Tryz.prog) w kBr 6 ty qd
   go_wp2
   go_ret
   exact ⟨rfl, iter_below _ _ _⟩
  | succ g =>
   have hi : i < kBr.size := by show i < 6; omega
   have ha : (kBr[i]'hi).toNat < 128 := br_lt i hi
   have hnx := fun ty => run_next_ascii (P := Tryz.prog) w kBr i ty hi ha
   have hne : (((kBr[i]'hi).toNat : Int) == 65533) = false := by simp; omega
   generalize (kBr[i]'hi).toNat = X at *
   go_wp2
   go_roundg g
   case measure => omega
   case rel => exact ⟨i + 1, by omega, rfl⟩
theorem validRune (r : Int) (w : World) (h : 0 ≤ r ∧ (r < 55296 ∨ (57344 ≤ r ∧ r ≤ 1114111))) :
  Calls Tryz.prog 297 #[.int .i32 r] w fun e w' => e = .returned (.bool true) ∧ w' = w := by
 by_cases h1 : r < 55296
 ·have h0 : 0 ≤ r := h.1
  clear h
  go_enter func297, ntmps297
  go_wp2
  all_goals
   go_ret
   exact ⟨rfl, rfl⟩
 ·have h2 : 57343 < r := by omega
  have h3 : r ≤ 1114111 := by omega
  have h0 : 0 ≤ r := h.1
  clear h
  go_enter func297, ntmps297
  go_wp2
  all_goals
   go_ret
   exact ⟨rfl, rfl⟩
theorem firstIdx_none (s : ByteArray) (c : UInt8) (h : ∀ i, (hi : i < s.size) → s[i]'hi ≠ c) : firstIdx s c = -1 := by
 have hf : (List.range s.size).find? (fun i => s[i]! == c) = none := by
  rw [List.find?_eq_none]
  intro i hi
  have hi' : i < s.size := List.mem_range.1 hi
  have := h i hi'
  rw [getElem!_pos s i hi']
  simpa using this
 unfold firstIdx
 rw [hf]
theorem slice_from (S : ByteArray) (L : Nat) (h : L ≤ S.size) (ww : World) : (Instr.slice 9 (.string S) (some (.int .i64 (L : Int))) none none).run Tryz.prog ww = .ok (.string (S.extract L S.size)) ww := by
 have h0 : (0 : Int) ≤ (L : Int) := by omega
 have h1 : (L : Int) ≤ (S.size : Int) := by omega
 simp [Instr.slice, run_underlying underlying9, Instr.sliceBounds, go_sem, h0, h1]
theorem qt26 {P : Prop} (h : P := by
  obtain ⟨rfl, rfl, rfl, rfl⟩ := hrel
  go_wp2_with fail
  go_step3
  go_wp2_with fail
  go_region_held3 (fun ww => ∃ x, Hid (ww.os = x)) ((exact ⟨_, rfl⟩)) (fail)
  all_goals
   go_wp2_with fail
   go_region_held3 (fun ww => ∃ x, Hid (ww.os = x)) ((exact ⟨_, rfl⟩)) ((go_at_call 229; refine Calls.mono (HIX.out _ _) ?_; rintro e2 w2 ⟨rfl, rfl⟩))
  all_goals go_wp2
  all_goals rw [Exit.noGoto_ret]
  all_goals simp only [Exit.inBlock, Exit.then]
  all_goals rw [Exit.noGoto_ret]
  all_goals simp only [Exit.inBlock]
  all_goals
   first
    | (refine bodyPost_ret (v := .int .i64 (-1)) (by simp [results, results284, go_sem]) rfl ⟨rfl, ?_⟩ <;> exact qB)
 ) : P := h
theorem idxRune_high (r : Nat) (w : World) (h : 128 ≤ r) (hv : r ≤ 1114111 ∧ (r < 55296 ∨ 57344 ≤ r)) (hne : r ≠ 65533) :
  qC 284 #[.string kBr, .int .i32 r] w (.int .i64 (-1)) := by
 obtain ⟨l, c, he, hl1, hl3, hc⟩ := enc_last r h hv
 have hV : Hid (∀ ww, Calls Tryz.prog 297 #[.int .i32 (r : Int)] ww fun e w' => e = .returned (.bool true) ∧ w' = ww) := fun ww => validRune r ww qo
 have hcv : ∀ ww, (convert 21 9 (.int .i32 (r : Int))).run Tryz.prog ww = .ok (.string (Utf8.encode (r : Int))) ww := fun ww => by
  simp [convert, run_underlying underlying21, run_underlying underlying9]
  rfl
 generalize Utf8.encode (r : Int) = rs at *
 have hsz : rs.size = l.length + 1 := by
  rw [size_list, he]; simp
 have hlast : ∀ hk : l.length < rs.size, 128 ≤ (rs[l.length]'hk).toNat := fun hk => last_list he hc l.length hk hsz.symm
 have h1 : ¬ ((r : Int) < 128) := by omega
 have h0 : (0 : Int) ≤ (r : Int) := by omega
 have h2 : ((r : Int) == 65533) = false := by simp; omega
 clear he hc h hv hne
 generalize l.length = L at *
 have hL : L < rs.size := by omega
 have hla := hlast hL
 have HIX : Hid (∀ k ww, Calls Tryz.prog 229 #[.string (kBr.extract k kBr.size), .int .u8 ((rs[L]'hL).toNat : Int)] ww fun e w' => e = .returned (.int .i64 (-1)) ∧ w' = ww) := by
  intro k ww
  have := indexByte_any (kBr.extract k kBr.size) ((rs[L]'hL).toNat : Int) ww
  rw [firstIdx_none] at this
  ·exact this
  ·intro i hi hq
   have hi2 : k + i < kBr.size := by
    have := hi
    rw [ByteArray.size_extract] at this
    have h6 : kBr.size = 6 := rfl
    omega
   have e : (kBr.extract k kBr.size)[i]'hi = kBr[k + i]'hi2 := ByteArray.getElem_extract ..
   rw [e] at hq
   have := br_lt (k + i) hi2
   rw [hq] at this
   simp at this
   omega
 have hlt : ∀ k, (hk : k < kBr.size) → (kBr[k]'hk).toNat < 128 := br_lt
 have h6 : kBr.size = 6 := rfl
 generalize kBr = S at *
 rcases (by omega : L = 1 ∨ L = 2 ∨ L = 3) with rfl | rfl | rfl
 ·have hs1 : 1 < S.size := by omega
  have hx : ¬ (S[1]'hs1).toNat = (rs[1]'hL).toNat := by have := hlt 1 hs1; omega
  have hx' : (((S[1]'hs1).toNat : Int) == ((rs[1]'hL).toNat : Int)) = false := by simp; omega
  have hi1 : (1 : Int) < (S.size : Int) := by omega
  have hi2 : (2 : Int) ≤ (S.size : Int) := by omega
  have hi3 : (1 : Int) < (rs.size : Int) := by omega
  have hi4 : (rs.size : Int) - 1 = 1 := by omega
  have hwr : IntKind.i64.wrap 2 = 2 := by rw [IntKind.wrap_i64]; omega
  have hsl : ∀ ww, (Instr.slice 9 (.string S) (some (.int .i64 2)) none none).run Tryz.prog ww = .ok (.string (S.extract 2 S.size)) ww := slice_from S 2 qo
  clear hlast hl1 hl3 hlt hsz h6
  go_enter func284, ntmps284
  go_wp2_with fail
  refine Calls.mono (hV.out _) ?_
  rintro e w1 ⟨rfl, rfl⟩
  go_wp2_with fail
  go_step3
  go_wp2_with fail
  go_loopg [9, 10] 1 (fun g i f wx => g = 1 ∧ i = .int .i64 1 ∧ f = .int .i64 0 ∧ wx = w1)
  case atStart => exact ⟨rfl, rfl, rfl, rfl⟩
  case round =>
   exact qt26
 ·have hs2 : 2 < S.size := by omega
  have hx : ¬ (S[2]'hs2).toNat = (rs[2]'hL).toNat := by have := hlt 2 hs2; omega
  have hx' : (((S[2]'hs2).toNat : Int) == ((rs[2]'hL).toNat : Int)) = false := by simp; omega
  have hi1 : (2 : Int) < (S.size : Int) := by omega
  have hi2 : (3 : Int) ≤ (S.size : Int) := by omega
  have hi3 : (2 : Int) < (rs.size : Int) := by omega
  have hi4 : (rs.size : Int) - 1 = 2 := by omega
  have hwr : IntKind.i64.wrap 3 = 3 := by rw [IntKind.wrap_i64]; omega
  have hsl : ∀ ww, (Instr.slice 9 (.string S) (some (.int .i64 3)) none none).run Tryz.prog ww = .ok (.string (S.extract 3 S.size)) ww := slice_from S 3 qo
  clear hlast hl1 hl3 hlt hsz h6
  go_enter func284, ntmps284
  go_wp2_with fail
  refine Calls.mono (hV.out _) ?_
  rintro e w1 ⟨rfl, rfl⟩
  go_wp2_with fail
  go_step3
  go_wp2_with fail
  go_loopg [9, 10] 1 (fun g i f wx => g = 1 ∧ i = .int .i64 2 ∧ f = .int .i64 0 ∧ wx = w1)
  case atStart => exact ⟨rfl, rfl, rfl, rfl⟩
  case round =>
   exact qt26
 ·have hs3 : 3 < S.size := by omega
  have hx : ¬ (S[3]'hs3).toNat = (rs[3]'hL).toNat := by have := hlt 3 hs3; omega
  have hx' : (((S[3]'hs3).toNat : Int) == ((rs[3]'hL).toNat : Int)) = false := by simp; omega
  have hi1 : (3 : Int) < (S.size : Int) := by omega
  have hi2 : (4 : Int) ≤ (S.size : Int) := by omega
  have hi3 : (3 : Int) < (rs.size : Int) := by omega
  have hi4 : (rs.size : Int) - 1 = 3 := by omega
  have hwr : IntKind.i64.wrap 4 = 4 := by rw [IntKind.wrap_i64]; omega
  have hsl : ∀ ww, (Instr.slice 9 (.string S) (some (.int .i64 4)) none none).run Tryz.prog ww = .ok (.string (S.extract 4 S.size)) ww := slice_from S 4 qo
  clear hlast hl1 hl3 hlt hsz h6
  go_enter func284, ntmps284
  go_wp2_with fail
  refine Calls.mono (hV.out _) ?_
  rintro e w1 ⟨rfl, rfl⟩
  go_wp2_with fail
  go_step3
  go_wp2_with fail
  go_loopg [9, 10] 1 (fun g i f wx => g = 1 ∧ i = .int .i64 3 ∧ f = .int .i64 0 ∧ wx = w1)
  case atStart => exact ⟨rfl, rfl, rfl, rfl⟩
  case round =>
   exact qt26
