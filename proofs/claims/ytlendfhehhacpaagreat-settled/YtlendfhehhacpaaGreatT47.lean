/- A part. -/
import Derived.Shelf.Strings.IndexAnyAll
import Derived.Shelf.Strings.Runes
import Derived.Test.YtlendfhehhacpaaGreatT32
set_option linter.unusedVariables false
set_option linter.unusedSimpArgs false
set_option maxRecDepth 100000
set_option maxHeartbeats 8000000
namespace Go.Proofs.YtlendfhehhacpaaGreat
open Go.RowKit Go.Shelf Nib Tryz
def anyRen : Go.Shelf.Ren := ⟨fun | 153 => 254 | 152 => 284 | 226 => 285 | 227 => 271 | 228 => 286 | 137 => 229 | 119 => 297 | 224 => 298 | 225 => 299 | 217 => 269 | 266 => 289 | n => n,
 fun | 9 => 9 | 3 => 3 | 4 => 4 | 5 => 5 | 21 => 21 | 117 => 293 | 116 => 292 | 0 => 0 | 46 => 262 | 124 => 296 | n => n, fun | n => n⟩
theorem anyLays : Go.Proofs.Lays.n153 Tryz.prog anyRen := {
 mixed := by kernel_rfl
 f119 := func297.trans (congrArg some qk)
 f137 := func229.trans (congrArg some qk)
 f152 := func284.trans (congrArg some qk)
 f153 := func254.trans (congrArg some qk)
 f217 := func269.trans (congrArg some qk)
 f224 := func298.trans (congrArg some qk)
 f225 := func299.trans (congrArg some qk)
 f226 := func285.trans (congrArg some qk)
 f227 := func271.trans (congrArg some qk)
 f228 := func286.trans (congrArg some qk)
 f266 := func289.trans (congrArg some qk)
 t0 := underlying0
 a0 := isAgg0
 z0 := sizeOf0
 v0 := zeroValue0
 t3 := underlying3
 a3 := isAgg3
 z3 := sizeOf3
 v3 := zeroValue3
 t4 := underlying4
 a4 := isAgg4
 z4 := sizeOf4
 v4 := zeroValue4
 t5 := underlying5
 a5 := isAgg5
 z5 := sizeOf5
 v5 := zeroValue5
 t9 := underlying9
 a9 := isAgg9
 z9 := sizeOf9
 v9 := zeroValue9
 t21 := underlying21
 a21 := isAgg21
 z21 := sizeOf21
 v21 := zeroValue21
 t46 := underlying262
 a46 := isAgg262
 z46 := sizeOf262
 v46 := zeroValue262
 t116 := underlying292
 a116 := isAgg292
 z116 := sizeOf292
 t117 := underlying293
 a117 := isAgg293
 z117 := sizeOf293
 v117 := zeroValue293
 t124 := underlying296
 a124 := isAgg296
 z124 := sizeOf296
 v124 := zeroValue296 }
theorem infoSet : (Tryz.prog.info? 292).map (fun i => (i.zero, i.size)) = some (some (.agg (Array.replicate 256 (.bool false))), 256) := by kernel_rfl
theorem br_ascii : ∀ (j : Nat) b, kBr.data.toList[j]? = some b → b.toNat < 128 := by
 intro j b h
 have : ∀ b, b ∈ kBr.data.toList → b.toNat < 128 := by decide
 exact this b (List.mem_of_getElem? h)
theorem anyLong (X : ByteArray) (w : World) (h8 : 8 < X.size) (hs : X.size ≤ 1000) :
  qC 254 #[.string X, .string kBr] w (.int .i64 (Lib.indexAny X.data.toList kBr.data.toList)) := by
 refine Calls.mono (Any.strings_IndexAny_long anyLays (zero_of_info infoSet).1 (zero_of_info infoSet).2 X kBr w qd h8 qo qd br_ascii) ?_
 rintro e w' ⟨h1, h2⟩
 refine ⟨h1, ?_⟩
 rw [h2]
 exact ((Below.refl _ _).alloc (Nat.le_refl _) _).alloc qi _
theorem next_at (wx : World) (k : Nat) (s : ByteArray) (pos : Nat) (ty : TypeId) (hk : wx.heap[k]? = some (.stringIter s pos)) (h : pos < s.size) :
  (Instr.next (.pointer (some ⟨k, 0, none⟩)) true ty).run Tryz.prog wx = .ok (.tuple #[.bool true, .int .i64 pos, .int .i32 (Utf8.decode s pos).1]) { wx with heap := wx.heap.setIfInBounds k (.stringIter s (pos + (Utf8.decode s pos).2)) } := by
 simp only [Instr.next, getObj, setObj, Sem.run_bind, Sem.run, hk, Result.andThen, h, if_true]
 simp [goInt]
theorem next_end (wx : World) (k : Nat) (s : ByteArray) (pos : Nat) (ty : TypeId) (hk : wx.heap[k]? = some (.stringIter s pos)) (h : ¬ pos < s.size) :
  (Instr.next (.pointer (some ⟨k, 0, none⟩)) true ty).run Tryz.prog wx = .ok (.tuple #[.bool false]) wx := by
 simp [Instr.next, getObj, Sem.run, hk, h]
theorem noAny_to {X : ByteArray} {i n : Nat} (h : Lib.NoAny X.data.toList kBr.data.toList i) (hn : ∀ j, (hj : j < X.size) → i ≤ j → j < i + n → 128 ≤ (X[j]'hj).toNat) : Lib.NoAny X.data.toList kBr.data.toList (i + n) := by
 intro j b hj hb
 by_cases h1 : j < i
 ·exact h j b h1 hb
 ·have hjs : j < X.size := by
   have := (List.getElem?_eq_some_iff.1 hb).1
   rw [Array.length_toList] at this; exact this
  have e : X[j]'hjs = b := by
   have := (List.getElem?_eq_some_iff.1 hb).2
   rw [← this]
   simp [ByteArray.getElem_eq_getElem_data]
  have hb128 := hn j hjs qo qo
  rw [e] at hb128
  have : ∀ b : UInt8, kBr.data.toList.contains b = true → b.toNat < 128 := by
   intro b hb
   have hm : b ∈ kBr.data.toList := by simpa using hb
   have hall : ∀ b, b ∈ kBr.data.toList → b.toNat < 128 := by decide
   exact hall b hm
  cases hc : kBr.data.toList.contains b with
  | false => rfl
  | true => have := this b hc; omega
theorem useSet (n : Int) (w : World) :
  Calls Tryz.prog 285 #[.int .i64 n] w fun e w' => e = .returned (.bool (decide (8 < n))) ∧ w' = w := by
 go_enter func285, ntmps285
 go_wp2
 go_ret
 exact ⟨ret_bool (by first | rfl | simp), rfl⟩
theorem runeAt (X : ByteArray) (i : Nat) (hi : i < X.size) :
  ∃ (v : Int) (n : Nat), 1 ≤ n ∧ (∀ ww, qC 284 #[.string kBr, .int .i32 (Utf8.decode X i).1] ww (.int .i64 v)) ∧ (Utf8.decode X i).2 = n ∧ i + n ≤ X.size ∧
   (0 ≤ v → kBr.data.toList.contains (X[i]'hi) = true) ∧ (v < 0 → ∀ s, Lib.NoAny X.data.toList kBr.data.toList i → s = i + n → Lib.NoAny X.data.toList kBr.data.toList s) := by
 have hxl : X.data.toList[i]? = some (X[i]'hi) := Lib.data_getElem? X i hi
 by_cases ha : (X[i]'hi).toNat < 128
 ·have hd := decode_ascii X i hi ha
  rw [hd]
  have hcon := Lib.contains_iff_indexByte kBr.data.toList (X[i]'hi)
  refine ⟨Lib.indexByte kBr.data.toList (X[i]'hi), 1, Nat.le_refl _, ?_, rfl, by omega, ?_, ?_⟩
  ·intro ww
   refine Calls.mono (Any.strings_IndexRune_ascii { anyLays with } kBr ((X[i]'hi).toNat : Int) ww qo qo) ?_
   rintro e w' ⟨h1, h2⟩
   have hback : (((X[i]'hi).toNat : Int)).toNat.toUInt8 = X[i]'hi := by simp
   rw [hback] at h1
   exact ⟨h1, by rw [h2]; exact Below.refl _ _⟩
  ·intro h0
   rw [hcon]; exact decide_eq_true h0
  ·intro h0 s hN hs
   rw [hs]
   exact hN.succ hxl (by rw [hcon]; exact decide_eq_false qo)
 ·have hh := decode_high X i hi qo
  have hv := dec_valid (s := X) (i := i)
  have hw := dec_high hi qo
  refine ⟨-1, (Utf8.decode X i).2, hh.2, ?_, rfl, hw.1, fun h0 => absurd h0 qo, ?_⟩
  ·intro ww
   by_cases he : (Utf8.decode X i).1 = 65533
   ·rw [he]; exact idxRune_err ww
   ·exact idxRune_high _ ww hh.1 hv he
  ·intro _ s hN hs
   rw [hs]
   exact noAny_to hN hw.2
theorem anyShort (X : ByteArray) (w : World) (h8 : X.size ≤ 8) :
  qC 254 #[.string X, .string kBr] w (.int .i64 (Lib.indexAny X.data.toList kBr.data.toList)) := by
 have HRA : Hid (∀ i, (hi : i < X.size) → ∃ (v : Int) (n : Nat), 1 ≤ n ∧ (∀ ww, qC 284 #[.string kBr, .int .i32 (Utf8.decode X i).1] ww (.int .i64 v)) ∧ (Utf8.decode X i).2 = n ∧ i + n ≤ X.size ∧
   (0 ≤ v → kBr.data.toList.contains (X[i]'hi) = true) ∧ (v < 0 → ∀ s, Lib.NoAny X.data.toList kBr.data.toList i → s = i + n → Lib.NoAny X.data.toList kBr.data.toList s)) := fun i hi => runeAt X i hi
 have hemp : kBr.toList.isEmpty = false := by rw [Lib.toList_data]; rfl
 have hn1 : ((kBr.size : Int) == 1) = false := by decide
 have HI : Hid (Lib.NoAny X.data.toList kBr.data.toList X.size → Lib.indexAny X.data.toList kBr.data.toList = -1) := fun h => Lib.indexAny_none (by rw [← Lib.size_eq]; exact h)
 have HJ : Hid (∀ i, (hi : i < X.size) → Lib.NoAny X.data.toList kBr.data.toList i → kBr.data.toList.contains (X[i]'hi) = true → Lib.indexAny X.data.toList kBr.data.toList = i) := fun i hi h1 h2 => Lib.indexAny_hit h1 (Lib.data_getElem? X i hi) h2
 have HZ : Hid (Lib.NoAny X.data.toList kBr.data.toList 0) := Lib.NoAny.zero _ _
 have hd : decide ((8 : Int) < (X.size : Int)) = false := decide_eq_false qo
 generalize kBr = S at *
 generalize Lib.indexAny X.data.toList S.data.toList = V at *
 go_enter func254, ntmps254
 go_wp2_with fail
 refine Calls.mono (useSet _ _) ?_
 rintro e w1 ⟨rfl, rfl⟩
 rw [hd]
 go_wp2
 go_loopg [9, 10] X.size (fun g _ _ wx => ∃ i : Nat, i ≤ X.size ∧ X.size ≤ i + g ∧ wx.heap[w1.heap.size]? = some (.stringIter X i) ∧ Below w1.heap.size w1 wx ∧ Hid (Lib.NoAny X.data.toList S.data.toList i))
 case atStart => exact ⟨0, Nat.zero_le _, by omega, World.iter_heap w1 X 0, iter_below _ _ _, HZ⟩
 case round =>
  obtain ⟨i, hi0, hig, hh, hB, hN⟩ := hrel
  by_cases hi : i < X.size
  ·obtain ⟨v, n, hn1', HR, hdn, hin, hv0, hv1⟩ := HRA.out i hi
   have hnx := fun ty => next_at wr w1.heap.size X i ty hh hi
   rw [hdn] at hnx
   have hks : w1.heap.size < wr.heap.size := (Array.getElem?_eq_some_iff.1 hh).1
   obtain ⟨W2, hW2⟩ : ∃ W2 : World, W2 = { wr with heap := wr.heap.setIfInBounds w1.heap.size (.stringIter X (i + n)) } := ⟨_, rfl⟩
   rw [← hW2] at hnx
   have h2h : W2.heap[w1.heap.size]? = some (.stringIter X (i + n)) := by rw [hW2]; simp [hks]
   have h2z : W2.heap.size = wr.heap.size := by rw [hW2]; simp
   have h2B : Hid (Below w1.heap.size w1 W2) := by
    refine ⟨by rw [hW2]; exact hB.os, by rw [hW2]; exact hB.tape, by rw [hW2]; exact hB.output, by rw [h2z]; exact hB.size, fun k hk => ?_⟩
    rw [← hB.block k hk, hW2]
    show (wr.heap.setIfInBounds _ _)[k]? = _
    rw [Array.getElem?_setIfInBounds_ne qo]
   have HR' : Hid _ := HR
   have HV0 : Hid _ := hv0
   have HV1 : Hid _ := hv1
   have HH2 : Hid (W2.heap[w1.heap.size]? = some (.stringIter X (i + n))) := h2h
   clear hW2 HR hv0 hv1 hh hB h2h
   generalize (Utf8.decode X i).1 = rn at *
   go_wp2_with fail
   refine Calls.mono (HR'.out _) ?_
   rintro e w3 ⟨rfl, h3⟩
   by_cases hv : (0 : Int) ≤ v
   ·have HE : Hid (V = i) := HJ.out i hi hN.out (HV0.out hv)
    have HB3 : Hid (Below w1.heap.size w1 w3) := h2B.out.trans (Below.mono h3 h2B.out.size)
    clear h3
    go_wp2
    go_ret
    exact ⟨ret_int HE.out.symm, HB3.out⟩
   ·have HN2 : Hid (Lib.NoAny X.data.toList S.data.toList (i + n)) := HV1.out qo _ hN.out rfl
    have HB3 : Hid (Below w1.heap.size w1 w3) := h2B.out.trans (Below.mono h3 h2B.out.size)
    have HH3 : Hid (w3.heap[w1.heap.size]? = some (.stringIter X (i + n))) := by rw [Hid, h3.block _ qo]; exact HH2.out
    clear h3
    go_wp2
    go_roundg (gk - 1)
    case measure => omega
    case rel => exact ⟨i + n, by omega, by omega, HH3.out, HB3.out, HN2⟩
  ·obtain rfl : i = X.size := by omega
   have hnx := fun ty => next_end wr w1.heap.size X X.size ty hh qo
   have HE : Hid (V = -1) := HI.out hN.out
   clear hh
   go_wp2
   go_ret
   exact ⟨ret_int HE.out.symm, hB⟩
def rowBr (k : Nat) : Bool := (prt (k : Int) == 0) == !(kBr.data.toList.contains (UInt8.ofNat k))
theorem rowBr_all : ∀ k : Nat, k < 256 → rowBr k = true := by decide +kernel
theorem br_iff (u : UInt8) : (prt (u.toNat : Int) == 0) = !(kBr.data.toList.contains u) := by
 have h := rowBr_all u.toNat u.toNat_lt
 simp only [rowBr, beq_iff_eq] at h
 rw [h]
 simp
theorem ext_get {s : ByteArray} {a b j : Nat} (hb : b ≤ s.size) (h : a + j < b) : ∃ (h1 : j < (s.extract a b).size) (h2 : a + j < s.size), (s.extract a b)[j]'h1 = s[a + j]'h2 :=
 ⟨by rw [ByteArray.size_extract]; omega, by omega, ByteArray.getElem_extract ..⟩
theorem indexAny_brk (s : ByteArray) (p : Nat) (hp : p ≤ s.size) : Lib.indexAny (s.extract p (fin s p)).data.toList kBr.data.toList = brkAt s p := by
 have hf := fin_le hp
 have hg := fin_ge s p
 have hXs : (s.extract p (fin s p)).size = fin s p - p := by rw [ByteArray.size_extract]; omega
 have hu1 := up_ge (nobr s) (fin s p) p
 have hu2 := up_le (c := nobr s) (n := fin s p) (p := p) hg
 have hno : ∀ i, p + i ≤ Nib.up (nobr s) (fin s p) p → Lib.NoAny (s.extract p (fin s p)).data.toList kBr.data.toList i := by
  intro i hi j b hj hb
  have hjs : j < (s.extract p (fin s p)).size := by
   have := (List.getElem?_eq_some_iff.1 hb).1
   rw [Array.length_toList] at this; exact this
  obtain ⟨h1, h2, e⟩ := ext_get (s := s) (a := p) (b := fin s p) (j := j) hf qo
  have hbe : (s.extract p (fin s p))[j]'h1 = b := by
   have := (List.getElem?_eq_some_iff.1 hb).2
   rw [← this]
   simp [ByteArray.getElem_eq_getElem_data]
  rw [e] at hbe
  have hn := up_all (c := nobr s) (n := fin s p) (p := p) (i := p + j) qo qo
  simp only [nobr, bt_in h2, hbe] at hn
  rw [br_iff] at hn
  simpa using hn
 unfold brkAt
 by_cases h : Nib.up (nobr s) (fin s p) p < fin s p
 ·rw [if_pos h]
  obtain ⟨k, hk⟩ : ∃ k, Nib.up (nobr s) (fin s p) p = p + k := ⟨Nib.up (nobr s) (fin s p) p - p, by omega⟩
  obtain ⟨h1, h2, e⟩ := ext_get (s := s) (a := p) (b := fin s p) (j := k) hf qo
  have hx := up_end h
  rw [hk] at hx
  simp only [nobr, bt_in h2] at hx
  rw [br_iff] at hx
  have hc : kBr.data.toList.contains ((s.extract p (fin s p))[k]'h1) = true := by rw [e]; simpa using hx
  rw [Lib.indexAny_hit (hno k qo) (Lib.data_getElem? _ k h1) hc]
  omega
 ·rw [if_neg h]
  refine Lib.indexAny_none ?_
  rw [← Lib.size_eq, hXs]
  exact hno _ qo
theorem anyOk : AnyOk := by
 intro s p hs hp ww
 have hf := fin_le hp
 have hXs : (s.extract p (fin s p)).size = fin s p - p := by rw [ByteArray.size_extract]; omega
 rw [← indexAny_brk s p hp]
 by_cases h8 : (s.extract p (fin s p)).size ≤ 8
 ·exact anyShort _ ww h8
 ·exact anyLong _ ww qo qo
