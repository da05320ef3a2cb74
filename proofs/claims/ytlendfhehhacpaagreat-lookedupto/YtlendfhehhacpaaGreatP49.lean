/- Joined of the texts TextK, TextL, TextM. -/
import Derived.Test.YtlendfhehhacpaaGreatP06
import Derived.Test.YtlendfhehhacpaaGreatP03
import Derived.Laws.RangeString
import Derived.Laws.RangeAny
import Derived.Deep.LoopGhost
import Derived.Deep.RegionHeld3
import Derived.Shelf.Strings.IndexAnyAll
import Derived.Shelf.Strings.Runes
set_option linter.unusedVariables false
set_option linter.unusedSimpArgs false
set_option maxRecDepth 100000
set_option maxHeartbeats 8000000
namespace Go.Proofs.YtlendfhehhacpaaGreat
open Go.RowKit
def kBr : ByteArray := ⟨#[40, 41, 91, 93, 123, 125]⟩
theorem br_lt (i : Nat) (hi : i < kBr.size) : (kBr[i]'hi).toNat < 128 := by
  have hall : ∀ k : Fin 6, (kBr[k.1]'k.2).toNat < 128 := by decide
  exact hall ⟨i, hi⟩
theorem iter_below (w : World) (s : ByteArray) (p : Nat) : Below w.heap.size w (w.iter s p) := (Below.refl _ _).alloc (Nat.le_refl _) _
theorem idxRune_err (w : World) :
    Calls Tryz.prog 284 #[.string kBr, .int .i32 65533] w fun e w' => e = .returned (.int .i64 (-1)) ∧ Below w.heap.size w w' := by
  go_enter Tryz.func284, Tryz.ntmps284
  go_wp2
  go_loopg [5, 6] 6 (fun g _ _ wx => ∃ i : Nat, i + g = 6 ∧ wx = w.iter kBr i)
  case atStart => exact ⟨0, by omega, rfl⟩
  case round =>
    obtain ⟨i, hig, rfl⟩ := hrel
    cases gk with
    | zero =>
      obtain rfl : i = 6 := by omega
      have hnx := fun ty => run_next_end (P := Tryz.prog) w kBr 6 ty (by decide)
      go_wp2
      go_ret
      exact ⟨rfl, iter_below _ _ _⟩
    | succ g =>
      have hi : i < kBr.size := by show i < 6; omega
      have ha : (kBr[i]'hi).toNat < 128 := br_lt i hi
      have hnx := fun ty => run_next_ascii (P := Tryz.prog) w kBr i ty hi ha
      have hne : (((kBr[i]'hi).toNat : Int) == 65533) = false := by simp; omega
      generalize (kBr[i]'hi).toNat = X at *
      go_wp2
      go_roundg g
      case measure => omega
      case rel => exact ⟨i + 1, by omega, rfl⟩
theorem validRune (r : Int) (w : World) (h : 0 ≤ r ∧ (r < 55296 ∨ (57344 ≤ r ∧ r ≤ 1114111))) :
    Calls Tryz.prog 297 #[.int .i32 r] w fun e w' => e = .returned (.bool true) ∧ w' = w := by
  by_cases h1 : r < 55296
  · have h0 : 0 ≤ r := h.1
    clear h
    go_enter Tryz.func297, Tryz.ntmps297
    go_wp2
    all_goals
      go_ret
      exact ⟨rfl, rfl⟩
  · have h2 : 57343 < r := by omega
    have h3 : r ≤ 1114111 := by omega
    have h0 : 0 ≤ r := h.1
    clear h
    go_enter Tryz.func297, Tryz.ntmps297
    go_wp2
    all_goals
      go_ret
      exact ⟨rfl, rfl⟩
theorem firstIdx_none (s : ByteArray) (c : UInt8) (h : ∀ i, (hi : i < s.size) → s[i]'hi ≠ c) : firstIdx s c = -1 := by
  have hf : (List.range s.size).find? (fun i => s[i]! == c) = none := by
    rw [List.find?_eq_none]
    intro i hi
    have hi' : i < s.size := List.mem_range.1 hi
    have := h i hi'
    rw [getElem!_pos s i hi']
    simpa using this
  unfold firstIdx
  rw [hf]
theorem slice_from (S : ByteArray) (L : Nat) (h : L ≤ S.size) (ww : World) : (Instr.slice 9 (.string S) (some (.int .i64 (L : Int))) none none).run Tryz.prog ww = .ok (.string (S.extract L S.size)) ww := by
  have h0 : (0 : Int) ≤ (L : Int) := by omega
  have h1 : (L : Int) ≤ (S.size : Int) := by omega
  simp [Instr.slice, run_underlying Tryz.underlying9, Instr.sliceBounds, go_sem, h0, h1]
theorem idxRune_high (r : Nat) (w : World) (h : 128 ≤ r) (hv : r ≤ 1114111 ∧ (r < 55296 ∨ 57344 ≤ r)) (hne : r ≠ 65533) :
    Calls Tryz.prog 284 #[.string kBr, .int .i32 r] w fun e w' => e = .returned (.int .i64 (-1)) ∧ Below w.heap.size w w' := by
  obtain ⟨l, c, he, hl1, hl3, hc⟩ := Nib.enc_last r h hv
  have hV : Hid (∀ ww, Calls Tryz.prog 297 #[.int .i32 (r : Int)] ww fun e w' => e = .returned (.bool true) ∧ w' = ww) := fun ww => validRune r ww (by omega)
  have hcv : ∀ ww, (convert 21 9 (.int .i32 (r : Int))).run Tryz.prog ww = .ok (.string (Utf8.encode (r : Int))) ww := fun ww => by
    simp [convert, run_underlying Tryz.underlying21, run_underlying Tryz.underlying9]
    rfl
  generalize Utf8.encode (r : Int) = rs at *
  have hsz : rs.size = l.length + 1 := by
    rw [Nib.size_list, he]; simp
  have hlast : ∀ hk : l.length < rs.size, 128 ≤ (rs[l.length]'hk).toNat := fun hk => Nib.last_list he hc l.length hk hsz.symm
  have h1 : ¬ ((r : Int) < 128) := by omega
  have h0 : (0 : Int) ≤ (r : Int) := by omega
  have h2 : ((r : Int) == 65533) = false := by simp; omega
  clear he hc h hv hne
  generalize l.length = L at *
  have hL : L < rs.size := by omega
  have hla := hlast hL
  have HIX : Hid (∀ k ww, Calls Tryz.prog 229 #[.string (kBr.extract k kBr.size), .int .u8 ((rs[L]'hL).toNat : Int)] ww fun e w' => e = .returned (.int .i64 (-1)) ∧ w' = ww) := by
    intro k ww
    have := indexByte_any (kBr.extract k kBr.size) ((rs[L]'hL).toNat : Int) ww
    rw [firstIdx_none] at this
    · exact this
    · intro i hi hq
      have hi2 : k + i < kBr.size := by
        have := hi
        rw [ByteArray.size_extract] at this
        have h6 : kBr.size = 6 := rfl
        omega
      have e : (kBr.extract k kBr.size)[i]'hi = kBr[k + i]'hi2 := ByteArray.getElem_extract ..
      rw [e] at hq
      have := br_lt (k + i) hi2
      rw [hq] at this
      simp at this
      omega
  have hlt : ∀ k, (hk : k < kBr.size) → (kBr[k]'hk).toNat < 128 := br_lt
  have h6 : kBr.size = 6 := rfl
  generalize kBr = S at *
  rcases (by omega : L = 1 ∨ L = 2 ∨ L = 3) with rfl | rfl | rfl
  · have hs1 : 1 < S.size := by omega
    have hx : ¬ (S[1]'hs1).toNat = (rs[1]'hL).toNat := by have := hlt 1 hs1; omega
    have hx' : (((S[1]'hs1).toNat : Int) == ((rs[1]'hL).toNat : Int)) = false := by simp; omega
    have hi1 : (1 : Int) < (S.size : Int) := by omega
    have hi2 : (2 : Int) ≤ (S.size : Int) := by omega
    have hi3 : (1 : Int) < (rs.size : Int) := by omega
    have hi4 : (rs.size : Int) - 1 = 1 := by omega
    have hwr : IntKind.i64.wrap 2 = 2 := by rw [IntKind.wrap_i64]; omega
    have hsl : ∀ ww, (Instr.slice 9 (.string S) (some (.int .i64 2)) none none).run Tryz.prog ww = .ok (.string (S.extract 2 S.size)) ww := slice_from S 2 (by omega)
    clear hlast hl1 hl3 hlt hsz h6
    go_enter Tryz.func284, Tryz.ntmps284
    go_wp2_with fail
    refine Calls.mono (hV.out _) ?_
    rintro e w1 ⟨rfl, rfl⟩
    go_wp2_with fail
    go_step3
    go_wp2_with fail
    go_loopg [9, 10] 1 (fun g i f wx => g = 1 ∧ i = .int .i64 1 ∧ f = .int .i64 0 ∧ wx = w1)
    case atStart => exact ⟨rfl, rfl, rfl, rfl⟩
    case round =>
      obtain ⟨rfl, rfl, rfl, rfl⟩ := hrel
      go_wp2_with fail
      go_step3
      go_wp2_with fail
      go_region_held3 (fun ww => ∃ x, Hid (ww.os = x)) ((exact ⟨_, rfl⟩)) (fail)
      all_goals
        go_wp2_with fail
        go_region_held3 (fun ww => ∃ x, Hid (ww.os = x)) ((exact ⟨_, rfl⟩)) ((go_at_call 229; refine Calls.mono (HIX.out _ _) ?_; rintro e2 w2 ⟨rfl, rfl⟩))
      all_goals go_wp2
      all_goals rw [Exit.noGoto_ret]
      all_goals simp only [Exit.inBlock, Exit.then]
      all_goals rw [Exit.noGoto_ret]
      all_goals simp only [Exit.inBlock]
      all_goals
        first
          | (refine bodyPost_ret (v := .int .i64 (-1)) (by simp [results, Tryz.results284, go_sem]) rfl ⟨rfl, ?_⟩ <;> repeat (with_reducible first | exact Below.refl _ _ | refine b_s ?_ _ | refine b_a ?_ _ | refine Below.drew ?_ | refine below_drewN ?_ _))
  · have hs2 : 2 < S.size := by omega
    have hx : ¬ (S[2]'hs2).toNat = (rs[2]'hL).toNat := by have := hlt 2 hs2; omega
    have hx' : (((S[2]'hs2).toNat : Int) == ((rs[2]'hL).toNat : Int)) = false := by simp; omega
    have hi1 : (2 : Int) < (S.size : Int) := by omega
    have hi2 : (3 : Int) ≤ (S.size : Int) := by omega
    have hi3 : (2 : Int) < (rs.size : Int) := by omega
    have hi4 : (rs.size : Int) - 1 = 2 := by omega
    have hwr : IntKind.i64.wrap 3 = 3 := by rw [IntKind.wrap_i64]; omega
    have hsl : ∀ ww, (Instr.slice 9 (.string S) (some (.int .i64 3)) none none).run Tryz.prog ww = .ok (.string (S.extract 3 S.size)) ww := slice_from S 3 (by omega)
    clear hlast hl1 hl3 hlt hsz h6
    go_enter Tryz.func284, Tryz.ntmps284
    go_wp2_with fail
    refine Calls.mono (hV.out _) ?_
    rintro e w1 ⟨rfl, rfl⟩
    go_wp2_with fail
    go_step3
    go_wp2_with fail
    go_loopg [9, 10] 1 (fun g i f wx => g = 1 ∧ i = .int .i64 2 ∧ f = .int .i64 0 ∧ wx = w1)
    case atStart => exact ⟨rfl, rfl, rfl, rfl⟩
    case round =>
      obtain ⟨rfl, rfl, rfl, rfl⟩ := hrel
      go_wp2_with fail
      go_step3
      go_wp2_with fail
      go_region_held3 (fun ww => ∃ x, Hid (ww.os = x)) ((exact ⟨_, rfl⟩)) (fail)
      all_goals
        go_wp2_with fail
        go_region_held3 (fun ww => ∃ x, Hid (ww.os = x)) ((exact ⟨_, rfl⟩)) ((go_at_call 229; refine Calls.mono (HIX.out _ _) ?_; rintro e2 w2 ⟨rfl, rfl⟩))
      all_goals go_wp2
      all_goals rw [Exit.noGoto_ret]
      all_goals simp only [Exit.inBlock, Exit.then]
      all_goals rw [Exit.noGoto_ret]
      all_goals simp only [Exit.inBlock]
      all_goals
        first
          | (refine bodyPost_ret (v := .int .i64 (-1)) (by simp [results, Tryz.results284, go_sem]) rfl ⟨rfl, ?_⟩ <;> repeat (with_reducible first | exact Below.refl _ _ | refine b_s ?_ _ | refine b_a ?_ _ | refine Below.drew ?_ | refine below_drewN ?_ _))
  · have hs3 : 3 < S.size := by omega
    have hx : ¬ (S[3]'hs3).toNat = (rs[3]'hL).toNat := by have := hlt 3 hs3; omega
    have hx' : (((S[3]'hs3).toNat : Int) == ((rs[3]'hL).toNat : Int)) = false := by simp; omega
    have hi1 : (3 : Int) < (S.size : Int) := by omega
    have hi2 : (4 : Int) ≤ (S.size : Int) := by omega
    have hi3 : (3 : Int) < (rs.size : Int) := by omega
    have hi4 : (rs.size : Int) - 1 = 3 := by omega
    have hwr : IntKind.i64.wrap 4 = 4 := by rw [IntKind.wrap_i64]; omega
    have hsl : ∀ ww, (Instr.slice 9 (.string S) (some (.int .i64 4)) none none).run Tryz.prog ww = .ok (.string (S.extract 4 S.size)) ww := slice_from S 4 (by omega)
    clear hlast hl1 hl3 hlt hsz h6
    go_enter Tryz.func284, Tryz.ntmps284
    go_wp2_with fail
    refine Calls.mono (hV.out _) ?_
    rintro e w1 ⟨rfl, rfl⟩
    go_wp2_with fail
    go_step3
    go_wp2_with fail
    go_loopg [9, 10] 1 (fun g i f wx => g = 1 ∧ i = .int .i64 3 ∧ f = .int .i64 0 ∧ wx = w1)
    case atStart => exact ⟨rfl, rfl, rfl, rfl⟩
    case round =>
      obtain ⟨rfl, rfl, rfl, rfl⟩ := hrel
      go_wp2_with fail
      go_step3
      go_wp2_with fail
      go_region_held3 (fun ww => ∃ x, Hid (ww.os = x)) ((exact ⟨_, rfl⟩)) (fail)
      all_goals
        go_wp2_with fail
        go_region_held3 (fun ww => ∃ x, Hid (ww.os = x)) ((exact ⟨_, rfl⟩)) ((go_at_call 229; refine Calls.mono (HIX.out _ _) ?_; rintro e2 w2 ⟨rfl, rfl⟩))
      all_goals go_wp2
      all_goals rw [Exit.noGoto_ret]
      all_goals simp only [Exit.inBlock, Exit.then]
      all_goals rw [Exit.noGoto_ret]
      all_goals simp only [Exit.inBlock]
      all_goals
        first
          | (refine bodyPost_ret (v := .int .i64 (-1)) (by simp [results, Tryz.results284, go_sem]) rfl ⟨rfl, ?_⟩ <;> repeat (with_reducible first | exact Below.refl _ _ | refine b_s ?_ _ | refine b_a ?_ _ | refine Below.drew ?_ | refine below_drewN ?_ _))
end Go.Proofs.YtlendfhehhacpaaGreat
namespace Go.Proofs.YtlendfhehhacpaaGreat
open Go.RowKit Go.Shelf
def anyRen : Go.Shelf.Ren := ⟨fun | 153 => 254 | 152 => 284 | 226 => 285 | 227 => 271 | 228 => 286 | 137 => 229 | 119 => 297 | 224 => 298 | 225 => 299 | 217 => 269 | 266 => 289 | n => n,
  fun | 9 => 9 | 3 => 3 | 4 => 4 | 5 => 5 | 21 => 21 | 117 => 293 | 116 => 292 | 0 => 0 | 46 => 262 | 124 => 296 | n => n, fun | n => n⟩
theorem anyLays : Go.Proofs.Lays.n153 Tryz.prog anyRen := {
  mixed := by kernel_rfl
  f119 := Tryz.func297.trans (congrArg some (by kernel_rfl))
  f137 := Tryz.func229.trans (congrArg some (by kernel_rfl))
  f152 := Tryz.func284.trans (congrArg some (by kernel_rfl))
  f153 := Tryz.func254.trans (congrArg some (by kernel_rfl))
  f217 := Tryz.func269.trans (congrArg some (by kernel_rfl))
  f224 := Tryz.func298.trans (congrArg some (by kernel_rfl))
  f225 := Tryz.func299.trans (congrArg some (by kernel_rfl))
  f226 := Tryz.func285.trans (congrArg some (by kernel_rfl))
  f227 := Tryz.func271.trans (congrArg some (by kernel_rfl))
  f228 := Tryz.func286.trans (congrArg some (by kernel_rfl))
  f266 := Tryz.func289.trans (congrArg some (by kernel_rfl))
  t0 := Tryz.underlying0
  a0 := Tryz.isAgg0
  z0 := Tryz.sizeOf0
  v0 := Tryz.zeroValue0
  t3 := Tryz.underlying3
  a3 := Tryz.isAgg3
  z3 := Tryz.sizeOf3
  v3 := Tryz.zeroValue3
  t4 := Tryz.underlying4
  a4 := Tryz.isAgg4
  z4 := Tryz.sizeOf4
  v4 := Tryz.zeroValue4
  t5 := Tryz.underlying5
  a5 := Tryz.isAgg5
  z5 := Tryz.sizeOf5
  v5 := Tryz.zeroValue5
  t9 := Tryz.underlying9
  a9 := Tryz.isAgg9
  z9 := Tryz.sizeOf9
  v9 := Tryz.zeroValue9
  t21 := Tryz.underlying21
  a21 := Tryz.isAgg21
  z21 := Tryz.sizeOf21
  v21 := Tryz.zeroValue21
  t46 := Tryz.underlying262
  a46 := Tryz.isAgg262
  z46 := Tryz.sizeOf262
  v46 := Tryz.zeroValue262
  t116 := Tryz.underlying292
  a116 := Tryz.isAgg292
  z116 := Tryz.sizeOf292
  t117 := Tryz.underlying293
  a117 := Tryz.isAgg293
  z117 := Tryz.sizeOf293
  v117 := Tryz.zeroValue293
  t124 := Tryz.underlying296
  a124 := Tryz.isAgg296
  z124 := Tryz.sizeOf296
  v124 := Tryz.zeroValue296 }
theorem infoSet : (Tryz.prog.info? 292).map (fun i => (i.zero, i.size)) = some (some (.agg (Array.replicate 256 (.bool false))), 256) := by kernel_rfl
theorem br_ascii : ∀ (j : Nat) b, kBr.data.toList[j]? = some b → b.toNat < 128 := by
  intro j b h
  have : ∀ b, b ∈ kBr.data.toList → b.toNat < 128 := by decide
  exact this b (List.mem_of_getElem? h)
theorem anyLong (X : ByteArray) (w : World) (h8 : 8 < X.size) (hs : X.size ≤ 1000) :
    Calls Tryz.prog 254 #[.string X, .string kBr] w fun e w' => e = .returned (.int .i64 (Lib.indexAny X.data.toList kBr.data.toList)) ∧ Below w.heap.size w w' := by
  refine Calls.mono (Any.strings_IndexAny_long anyLays (zero_of_info infoSet).1 (zero_of_info infoSet).2 X kBr w (by decide) h8 (by omega) (by decide) br_ascii) ?_
  rintro e w' ⟨h1, h2⟩
  refine ⟨h1, ?_⟩
  rw [h2]
  exact ((Below.refl _ _).alloc (Nat.le_refl _) _).alloc (by simp) _
theorem next_at (wx : World) (k : Nat) (s : ByteArray) (pos : Nat) (ty : TypeId) (hk : wx.heap[k]? = some (.stringIter s pos)) (h : pos < s.size) :
    (Instr.next (.pointer (some ⟨k, 0, none⟩)) true ty).run Tryz.prog wx = .ok (.tuple #[.bool true, .int .i64 pos, .int .i32 (Utf8.decode s pos).1]) { wx with heap := wx.heap.setIfInBounds k (.stringIter s (pos + (Utf8.decode s pos).2)) } := by
  simp only [Instr.next, getObj, setObj, Sem.run_bind, Sem.run, hk, Result.andThen, h, if_true]
  simp [goInt]
theorem next_end (wx : World) (k : Nat) (s : ByteArray) (pos : Nat) (ty : TypeId) (hk : wx.heap[k]? = some (.stringIter s pos)) (h : ¬ pos < s.size) :
    (Instr.next (.pointer (some ⟨k, 0, none⟩)) true ty).run Tryz.prog wx = .ok (.tuple #[.bool false]) wx := by
  simp [Instr.next, getObj, Sem.run, hk, h]
theorem noAny_to {X : ByteArray} {i n : Nat} (h : Lib.NoAny X.data.toList kBr.data.toList i) (hn : ∀ j, (hj : j < X.size) → i ≤ j → j < i + n → 128 ≤ (X[j]'hj).toNat) : Lib.NoAny X.data.toList kBr.data.toList (i + n) := by
  intro j b hj hb
  by_cases h1 : j < i
  · exact h j b h1 hb
  · have hjs : j < X.size := by
      have := (List.getElem?_eq_some_iff.1 hb).1
      rw [Array.length_toList] at this; exact this
    have e : X[j]'hjs = b := by
      have := (List.getElem?_eq_some_iff.1 hb).2
      rw [← this]
      simp [ByteArray.getElem_eq_getElem_data]
    have hb128 := hn j hjs (by omega) (by omega)
    rw [e] at hb128
    have : ∀ b : UInt8, kBr.data.toList.contains b = true → b.toNat < 128 := by
      intro b hb
      have hm : b ∈ kBr.data.toList := by simpa using hb
      have hall : ∀ b, b ∈ kBr.data.toList → b.toNat < 128 := by decide
      exact hall b hm
    cases hc : kBr.data.toList.contains b with
    | false => rfl
    | true => have := this b hc; omega
theorem useSet (n : Int) (w : World) :
    Calls Tryz.prog 285 #[.int .i64 n] w fun e w' => e = .returned (.bool (decide (8 < n))) ∧ w' = w := by
  go_enter Tryz.func285, Tryz.ntmps285
  go_wp2
  go_ret
  exact ⟨ret_bool (by first | rfl | simp), rfl⟩
theorem runeAt (X : ByteArray) (i : Nat) (hi : i < X.size) :
    ∃ (v : Int) (n : Nat), 1 ≤ n ∧ (∀ ww, Calls Tryz.prog 284 #[.string kBr, .int .i32 (Utf8.decode X i).1] ww fun e w' => e = .returned (.int .i64 v) ∧ Below ww.heap.size ww w') ∧ (Utf8.decode X i).2 = n ∧ i + n ≤ X.size ∧
      (0 ≤ v → kBr.data.toList.contains (X[i]'hi) = true) ∧ (v < 0 → ∀ s, Lib.NoAny X.data.toList kBr.data.toList i → s = i + n → Lib.NoAny X.data.toList kBr.data.toList s) := by
  have hxl : X.data.toList[i]? = some (X[i]'hi) := Lib.data_getElem? X i hi
  by_cases ha : (X[i]'hi).toNat < 128
  · have hd := decode_ascii X i hi ha
    rw [hd]
    have hcon := Lib.contains_iff_indexByte kBr.data.toList (X[i]'hi)
    refine ⟨Lib.indexByte kBr.data.toList (X[i]'hi), 1, Nat.le_refl _, ?_, rfl, by omega, ?_, ?_⟩
    · intro ww
      refine Calls.mono (Any.strings_IndexRune_ascii { anyLays with } kBr ((X[i]'hi).toNat : Int) ww (by omega) (by omega)) ?_
      rintro e w' ⟨h1, h2⟩
      have hback : (((X[i]'hi).toNat : Int)).toNat.toUInt8 = X[i]'hi := by simp
      rw [hback] at h1
      exact ⟨h1, by rw [h2]; exact Below.refl _ _⟩
    · intro h0
      rw [hcon]; exact decide_eq_true h0
    · intro h0 s hN hs
      rw [hs]
      exact hN.succ hxl (by rw [hcon]; exact decide_eq_false (by omega))
  · have hh := decode_high X i hi (by omega)
    have hv := Nib.dec_valid (s := X) (i := i)
    have hw := Nib.dec_high hi (by omega)
    refine ⟨-1, (Utf8.decode X i).2, hh.2, ?_, rfl, hw.1, fun h0 => absurd h0 (by omega), ?_⟩
    · intro ww
      by_cases he : (Utf8.decode X i).1 = 65533
      · rw [he]; exact idxRune_err ww
      · exact idxRune_high _ ww hh.1 hv he
    · intro _ s hN hs
      rw [hs]
      exact noAny_to hN hw.2
theorem anyShort (X : ByteArray) (w : World) (h8 : X.size ≤ 8) :
    Calls Tryz.prog 254 #[.string X, .string kBr] w fun e w' => e = .returned (.int .i64 (Lib.indexAny X.data.toList kBr.data.toList)) ∧ Below w.heap.size w w' := by
  have HRA : Hid (∀ i, (hi : i < X.size) → ∃ (v : Int) (n : Nat), 1 ≤ n ∧ (∀ ww, Calls Tryz.prog 284 #[.string kBr, .int .i32 (Utf8.decode X i).1] ww fun e w' => e = .returned (.int .i64 v) ∧ Below ww.heap.size ww w') ∧ (Utf8.decode X i).2 = n ∧ i + n ≤ X.size ∧
      (0 ≤ v → kBr.data.toList.contains (X[i]'hi) = true) ∧ (v < 0 → ∀ s, Lib.NoAny X.data.toList kBr.data.toList i → s = i + n → Lib.NoAny X.data.toList kBr.data.toList s)) := fun i hi => runeAt X i hi
  have hemp : kBr.toList.isEmpty = false := by rw [Lib.toList_data]; rfl
  have hn1 : ((kBr.size : Int) == 1) = false := by decide
  have HI : Hid (Lib.NoAny X.data.toList kBr.data.toList X.size → Lib.indexAny X.data.toList kBr.data.toList = -1) := fun h => Lib.indexAny_none (by rw [← Lib.size_eq]; exact h)
  have HJ : Hid (∀ i, (hi : i < X.size) → Lib.NoAny X.data.toList kBr.data.toList i → kBr.data.toList.contains (X[i]'hi) = true → Lib.indexAny X.data.toList kBr.data.toList = i) := fun i hi h1 h2 => Lib.indexAny_hit h1 (Lib.data_getElem? X i hi) h2
  have HZ : Hid (Lib.NoAny X.data.toList kBr.data.toList 0) := Lib.NoAny.zero _ _
  have hd : decide ((8 : Int) < (X.size : Int)) = false := decide_eq_false (by omega)
  generalize kBr = S at *
  generalize Lib.indexAny X.data.toList S.data.toList = V at *
  go_enter Tryz.func254, Tryz.ntmps254
  go_wp2_with fail
  refine Calls.mono (useSet _ _) ?_
  rintro e w1 ⟨rfl, rfl⟩
  rw [hd]
  go_wp2
  go_loopg [9, 10] X.size (fun g _ _ wx => ∃ i : Nat, i ≤ X.size ∧ X.size ≤ i + g ∧ wx.heap[w1.heap.size]? = some (.stringIter X i) ∧ Below w1.heap.size w1 wx ∧ Hid (Lib.NoAny X.data.toList S.data.toList i))
  case atStart => exact ⟨0, Nat.zero_le _, by omega, World.iter_heap w1 X 0, iter_below _ _ _, HZ⟩
  case round =>
    obtain ⟨i, hi0, hig, hh, hB, hN⟩ := hrel
    by_cases hi : i < X.size
    · obtain ⟨v, n, hn1', HR, hdn, hin, hv0, hv1⟩ := HRA.out i hi
      have hnx := fun ty => next_at wr w1.heap.size X i ty hh hi
      rw [hdn] at hnx
      have hks : w1.heap.size < wr.heap.size := (Array.getElem?_eq_some_iff.1 hh).1
      obtain ⟨W2, hW2⟩ : ∃ W2 : World, W2 = { wr with heap := wr.heap.setIfInBounds w1.heap.size (.stringIter X (i + n)) } := ⟨_, rfl⟩
      rw [← hW2] at hnx
      have h2h : W2.heap[w1.heap.size]? = some (.stringIter X (i + n)) := by rw [hW2]; simp [hks]
      have h2z : W2.heap.size = wr.heap.size := by rw [hW2]; simp
      have h2B : Hid (Below w1.heap.size w1 W2) := by
        refine ⟨by rw [hW2]; exact hB.os, by rw [hW2]; exact hB.tape, by rw [hW2]; exact hB.output, by rw [h2z]; exact hB.size, fun k hk => ?_⟩
        rw [← hB.block k hk, hW2]
        show (wr.heap.setIfInBounds _ _)[k]? = _
        rw [Array.getElem?_setIfInBounds_ne (by omega)]
      have HR' : Hid _ := HR
      have HV0 : Hid _ := hv0
      have HV1 : Hid _ := hv1
      have HH2 : Hid (W2.heap[w1.heap.size]? = some (.stringIter X (i + n))) := h2h
      clear hW2 HR hv0 hv1 hh hB h2h
      generalize (Utf8.decode X i).1 = rn at *
      go_wp2_with fail
      refine Calls.mono (HR'.out _) ?_
      rintro e w3 ⟨rfl, h3⟩
      by_cases hv : (0 : Int) ≤ v
      · have HE : Hid (V = i) := HJ.out i hi hN.out (HV0.out hv)
        have HB3 : Hid (Below w1.heap.size w1 w3) := h2B.out.trans (Below.mono h3 h2B.out.size)
        clear h3
        go_wp2
        go_ret
        exact ⟨ret_int HE.out.symm, HB3.out⟩
      · have HN2 : Hid (Lib.NoAny X.data.toList S.data.toList (i + n)) := HV1.out (by omega) _ hN.out rfl
        have HB3 : Hid (Below w1.heap.size w1 w3) := h2B.out.trans (Below.mono h3 h2B.out.size)
        have HH3 : Hid (w3.heap[w1.heap.size]? = some (.stringIter X (i + n))) := by rw [Hid, h3.block _ (by omega)]; exact HH2.out
        clear h3
        go_wp2
        go_roundg (gk - 1)
        case measure => omega
        case rel => exact ⟨i + n, by omega, by omega, HH3.out, HB3.out, HN2⟩
    · obtain rfl : i = X.size := by omega
      have hnx := fun ty => next_end wr w1.heap.size X X.size ty hh (by omega)
      have HE : Hid (V = -1) := HI.out hN.out
      clear hh
      go_wp2
      go_ret
      exact ⟨ret_int HE.out.symm, hB⟩
end Go.Proofs.YtlendfhehhacpaaGreat
