/- A part. -/
import Derived.Test.YtlendfhehhacpaaGreatU18
import Derived.OwnWalk
import Derived.ArgAppend
import Derived.Laws.RangeString
import Derived.Deep.LoopGhost
set_option linter.unusedVariables false
set_option linter.unusedSimpArgs false
set_option maxRecDepth 100000
set_option maxHeartbeats 8000000
namespace Go.Proofs.YtlendfhehhacpaaGreat
open Go.RowKit Nib Tryz
theorem infoU8 : (Tryz.prog.info? 5).map (fun i => (i.zero, i.size, i.bytes)) = some (some (.int .u8 0), 1, 1) := by kernel_rfl
def own (v : Value) : List Nat := v.ownBlock.toList
theorem ownsRow_base {w : World} {a c e s : Nat} {v : Value} {n : Nat} {xs : List Value} (h : w.ownsRow a e s v n xs) (hc : c ≤ a) : w.ownsRow c e s v n xs := by
 refine ⟨h.1, ?_⟩
 rcases h.2 with h2 | ⟨g, cap, cur, h1, h2, h3⟩
 ·exact Or.inl h2
 ·exact Or.inr ⟨g, cap, cur, h1, Nat.le_trans hc h2, h3⟩
theorem ownsRow_upd {S : List Nat} {w w' : World} {e s : Nat} {v : Value} {n : Nat} {xs : List Value} {a : Nat} (h : w.ownsRow a e s v n xs) (hu : Upd S w w') (hn : ∀ k, k ∈ S → v.ownBlock ≠ some k) : w'.ownsRow a e s v n xs := by
 refine ⟨h.1, ?_⟩
 rcases h.2 with h2 | ⟨g, cap, cur, h1, h2, h3, h4⟩
 ·exact Or.inl h2
 ·refine Or.inr ⟨g, cap, cur, h1, h2, ?_, h4⟩
  rw [hu.block g (Array.getElem?_eq_some_iff.1 h3).1 (fun hk => hn g hk (by rw [h1]; rfl))]
  exact h3
theorem owned_some {w : World} {a e s : Nat} {v : Value} {n : Nat} {xs : List Value} (h : w.ownsRow a e s v n xs) (hn : 0 < n) : ∃ g cap, v = .slice (some ⟨g, 0, none⟩) n cap ∧ a ≤ g := by
 rcases h.2 with ⟨_, h2⟩ | ⟨g, cap, cur, h1, h2, _⟩
 ·omega
 ·exact ⟨g, cap, h1, h2⟩
theorem mKeep_grow (b r d : Nat) (tv : Value) (dg : ByteArray) (key : Int) (ao : Option Addr) (n cap : Nat) (xs : List Value) (w : World) (hb : BdAt w b r d tv dg) (htv : tv = .slice ao n cap) (hnone : ao = none → n = 0 ∧ cap = 0) (hsome : ∀ a, ao = some a → ∃ g, a = ⟨g, 0, none⟩)
  (ho : w.ownsRow 0 5 1 tv n xs) (hc : cap < n + 1) (hn : n ≤ 17592186044416) :
  Calls Tryz.prog 47 #[.pointer (some ⟨b, 1, none⟩), .int .u8 key, .int .i64 0] w fun e w' => e = .returned (.tuple #[]) ∧ ∃ tv', BdAt w' b r d tv' dg ∧ w'.ownsRow (w.heap.size + 1) 5 1 tv' (n + 1) (xs ++ [.int .u8 key]) ∧ Upd [b] w w' := by
 have HB := hb
 obtain ⟨b0, b1, b2, b3, b4, b5, bz, bl⟩ := hb
 subst htv
 obtain ⟨i0, hi, hz0, hz1, hz2⟩ := info_parts infoU8
 have HL : Hid (xs.length = n * 1) := ho.1
 have HO : Hid (∀ o : Obj, ∀ a, ao = some a → ∀ j u, xs[j]? = some u → (w.alloc o).cell? (a.add j) = some u) := by
  intro o a ha j u hu
  obtain ⟨g, rfl⟩ := hsome a ha
  subst ha
  exact (ho.alloc o).cells (g := g) rfl j u hu
 have HN : Hid (∀ j u, [Value.int .u8 key][j]? = some u → (w.alloc (.cells #[.int .u8 key] 5)).cell? ((⟨w.heap.size, 0, none⟩ : Addr).add j) = some u) := by
  intro j u hj
  match j, hj with
  | 0, hj => simp at hj; subst hj; simp [Addr.add]
 clear ho hsome
 go_enter func47, ntmps47
 go_wp2_with (first
  | (at_builtin; refine wpList_append_grows _ rfl (.tmp 24) (.tmp 26) 48 rfl 5 i0 (.int .u8 0) 1 1 underlying48 hi hz0 hz1 hz2 rfl qd ao n cap xs rfl hnone HL.out (HO.out _) ⟨w.heap.size, 0, none⟩ 1 1 [.int .u8 key] rfl rfl HN.out (by intro u hu; simp at hu; subst hu; rfl) hc qm qo ?_; intro tv' w1 hown hgrow; obtain ⟨g, cp, rfl, hg⟩ := owned_some hown qo; have U1 : Upd [] (w.alloc (.cells #[.int .u8 key] 5)) w1 := ⟨hgrow.os, hgrow.tape, hgrow.output, hgrow.size, fun k hk _ => hgrow.block k hk qi⟩; have B1 := (HB.alloc (.cells #[.int .u8 key] 5)).upd U1 qi; have e1 := B1.c1; have ez := B1.fz; have hown' : Hid _ := hown; clear hown hgrow hg)
  | fail)
 go_end0
 have hq := ownsRow_setCell_below hown'.out (a := ⟨b, 1, none⟩) qs (.slice (some ⟨g, 0, none⟩) (n + 1) cp)
 rw [show (w.alloc (.cells #[.int .u8 key] 5)).heap.size = w.heap.size + 1 by simp] at hq
 refine ⟨rfl, _, B1.set_tv _, hq, ?_⟩
 refine Upd.setCell (Upd.trans (Upd.alloc (Upd.refl _ _) _) (U1.mono qi)) (Or.inl qi) _
theorem mKeep_room (b r d g : Nat) (dg : ByteArray) (key : Int) (n cap : Nat) (xs : List Value) (w : World) (hb : BdAt w b r d (.slice (some ⟨g, 0, none⟩) n cap) dg) (hgb : g ≠ b)
  (ho : w.ownsRow 0 5 1 (.slice (some ⟨g, 0, none⟩) n cap) n xs) (hc : n + 1 ≤ cap) (hn : n ≤ 17592186044416) :
  Calls Tryz.prog 47 #[.pointer (some ⟨b, 1, none⟩), .int .u8 key, .int .i64 0] w fun e w' => e = .returned (.tuple #[]) ∧ BdAt w' b r d (.slice (some ⟨g, 0, none⟩) (n + 1) cap) dg ∧ w'.ownsRow 0 5 1 (.slice (some ⟨g, 0, none⟩) (n + 1) cap) (n + 1) (xs ++ [.int .u8 key]) ∧ Upd [b, g] w w' := by
 have HB := hb
 obtain ⟨b0, b1, b2, b3, b4, b5, bz, bl⟩ := hb
 obtain ⟨i0, hi, hz0, hz1, hz2⟩ := info_parts infoU8
 have HO : Hid (∀ o : Obj, (w.alloc o).ownsRow 0 5 1 (.slice (some ⟨g, 0, none⟩) n cap) n xs) := fun o => ho.alloc o
 have HN : Hid (∀ j u, [Value.int .u8 key][j]? = some u → (w.alloc (.cells #[.int .u8 key] 5)).cell? ((⟨w.heap.size, 0, none⟩ : Addr).add j) = some u) := by
  intro j u hj
  match j, hj with
  | 0, hj => simp at hj; subst hj; simp [Addr.add]
 clear ho
 go_enter func47, ntmps47
 go_wp2_with (first
  | (at_builtin; refine wpList_append_fits _ rfl (.tmp 24) (.tmp 26) 48 rfl 0 5 i0 1 underlying48 hi hz1 g n cap xs rfl (HO.out _) ⟨w.heap.size, 0, none⟩ 1 1 [.int .u8 key] rfl rfl HN.out (by intro u hu; simp at hu; subst hu; rfl) hc ?_; intro w1 hown hgrow; have U1 : Upd [g] (w.alloc (.cells #[.int .u8 key] 5)) w1 := ⟨hgrow.os, hgrow.tape, hgrow.output, hgrow.size, fun k hk hk2 => hgrow.block k hk (by simp at hk2; simp [hk2])⟩; have B1 := (HB.alloc (.cells #[.int .u8 key] 5)).upd U1 (by simp; exact fun e => hgb e.symm); have e1 := B1.c1; have ez := B1.fz; have hown' : Hid _ := hown; clear hown hgrow)
  | fail)
 go_end0
 refine ⟨rfl, B1.set_tv _, ?_, ?_⟩
 ·refine ownsRow_upd hown'.out (Upd.setCell (Upd.refl [b] _) (Or.inl qi) _) ?_
  intro k hk
  simp at hk
  subst hk
  simp [Value.ownBlock, hgb]
 ·refine Upd.setCell (Upd.trans (Upd.alloc (Upd.refl _ _) _) (U1.mono qi)) (Or.inl qi) _
theorem mKeep_normal (b r d : Nat) (tv : Value) (dg : ByteArray) (key : Int) (n : Nat) (xs : List Value) (w : World) (hb : BdAt w b r d tv dg) (hne : tv.ownBlock ≠ some b)
  (ho : w.ownsRow 0 5 1 tv n xs) (hn : n ≤ 17592186044416) :
  Calls Tryz.prog 47 #[.pointer (some ⟨b, 1, none⟩), .int .u8 key, .int .i64 0] w fun e w' => e = .returned (.tuple #[]) ∧ ∃ tv', BdAt w' b r d tv' dg ∧ w'.ownsRow 0 5 1 tv' (n + 1) (xs ++ [.int .u8 key]) ∧ (tv'.ownBlock = tv.ownBlock ∨ ∃ g, tv'.ownBlock = some g ∧ w.heap.size ≤ g) ∧ Upd (b :: own tv) w w' := by
 rcases ho.2 with ⟨rfl, rfl⟩ | ⟨g, cap, cur, rfl, h1, h2, h3, h4⟩
 ·refine Calls.mono (mKeep_grow b r d _ dg key none 0 0 xs w hb rfl (fun _ => ⟨rfl, rfl⟩) (fun a h => by cases h) ho qo hn) ?_
  rintro e w' ⟨rfl, tv', hB, hO, hU⟩
  obtain ⟨g, cp, rfl, hg⟩ := owned_some hO qo
  exact ⟨rfl, _, hB, ownsRow_base hO (Nat.zero_le _), Or.inr ⟨g, rfl, by omega⟩, hU.mono qi⟩
 ·by_cases hc : n + 1 ≤ cap
  ·have hgb : g ≠ b := fun e => hne (by rw [e]; rfl)
   refine Calls.mono (mKeep_room b r d g dg key n cap xs w hb hgb ho hc hn) ?_
   rintro e w' ⟨rfl, hB, hO, hU⟩
   exact ⟨rfl, _, hB, hO, Or.inl rfl, hU.mono (by simp [own, Value.ownBlock])⟩
  ·refine Calls.mono (mKeep_grow b r d _ dg key (some ⟨g, 0, none⟩) n cap xs w hb rfl (fun h => by cases h) (fun a h => ⟨g, by simpa using h.symm⟩) ho qo hn) ?_
   rintro e w' ⟨rfl, tv', hB, hO, hU⟩
   obtain ⟨g', cp, rfl, hg⟩ := owned_some hO qo
   exact ⟨rfl, _, hB, ownsRow_base hO (Nat.zero_le _), Or.inr ⟨g', rfl, by omega⟩, hU.mono qi⟩
theorem mKeep_not (b r d : Nat) (tv : Value) (dg : ByteArray) (key mode : Int) (w : World) (hb : BdAt w b r d tv dg) (hm : mode = 2 ∨ mode = 3) :
  qC 47 #[.pointer (some ⟨b, 1, none⟩), .int .u8 key, .int .i64 mode] w (.tuple #[]) := by
 obtain ⟨b0, b1, b2, b3, b4, b5, bz, bl⟩ := hb
 rcases hm with hm | hm
 all_goals
  subst hm
  go_enter func47, ntmps47
  go_wp2
  go_end0
  exact ⟨rfl, Below.refl _ _⟩
theorem mEnd (b r d : Nat) (tv : Value) (dg : ByteArray) (O : Int) (w : World) (hb : BdAt w b r d tv dg) (hO : ¬ O = 2) :
  Calls Tryz.prog 48 #[.pointer (some ⟨b, 1, none⟩), .int .i64 O] w fun e w' => e = .returned (.tuple #[]) ∧ BdAt w' b r d (.slice none 0 0) dg ∧ Upd [b] w w' := by
 have HS := hb.set_tv (.slice none 0 0)
 obtain ⟨b0, b1, b2, b3, b4, b5, bz, bl⟩ := hb
 have hO' : (O == 2) = false := by simp [hO]
 clear hO
 go_enter func48, ntmps48
 go_wp2
 go_end0
 refine ⟨rfl, HS, ?_⟩
 repeat exact qU
theorem hKeep_same (r d : Nat) (p : Pg) (w : World) (h : RdAt w r d p) (hn : p.now = p.t) :
  qC 49 #[.pointer (some ⟨d, 5, none⟩), .string p.t] w (.tuple #[]) := by
 obtain ⟨c0, c1, c2, c3, c4, c5, c6, c7, c8, c9, fz, lt⟩ := h.dk
 rw [hn] at c5
 clear c0 c1 c2 c3 c4 c6 c7 c8 c9 h hn
 go_enter func49, ntmps49
 go_wp2
 first | go_end0 | refine bodyPost_ret (results_none rfl _ _ _) rfl ?_
 exact ⟨rfl, Below.refl _ _⟩
def kBr : ByteArray := ⟨#[40, 41, 91, 93, 123, 125]⟩
theorem br_lt (i : Nat) (hi : i < kBr.size) : (kBr[i]'hi).toNat < 128 := by
 have hall : ∀ k : Fin 6, (kBr[k.1]'k.2).toNat < 128 := by decide
 exact hall ⟨i, hi⟩
theorem iter_below (w : World) (s : ByteArray) (p : Nat) : Below w.heap.size w (w.iter s p) := (Below.refl _ _).alloc (Nat.le_refl _) _
theorem idxRune_err (w : World) :
  qC 284 #[.string kBr, .int .i32 65533] w (.int .i64 (-1)) := by
 go_enter func284, ntmps284
 go_wp2
 go_loopg [5, 6] 6 (fun g _ _ wx => ∃ i : Nat, i + g = 6 ∧ wx = w.iter kBr i)
 case atStart => exact ⟨0, by omega, rfl⟩
 case round =>
  obtain ⟨i, hig, rfl⟩ := hrel
  cases gk with
  | zero =>
   obtain rfl : i = 6 := by omega
   have hnx := fun ty => run_next_end (P := Tryz.prog) w kBr 6 ty qd
   go_wp2
   go_ret
   exact ⟨rfl, iter_below _ _ _⟩
  | succ g =>
   have hi : i < kBr.size := by show i < 6; omega
   have ha : (kBr[i]'hi).toNat < 128 := br_lt i hi
   have hnx := fun ty => run_next_ascii (P := Tryz.prog) w kBr i ty hi ha
   have hne : (((kBr[i]'hi).toNat : Int) == 65533) = false := by simp; omega
   generalize (kBr[i]'hi).toNat = X at *
   go_wp2
   go_roundg g
   case measure => omega
   case rel => exact ⟨i + 1, by omega, rfl⟩
theorem validRune (r : Int) (w : World) (h : 0 ≤ r ∧ (r < 55296 ∨ (57344 ≤ r ∧ r ≤ 1114111))) :
  Calls Tryz.prog 297 #[.int .i32 r] w fun e w' => e = .returned (.bool true) ∧ w' = w := by
 by_cases h1 : r < 55296
 ·have h0 : 0 ≤ r := h.1
  clear h
  go_enter func297, ntmps297
  go_wp2
  all_goals
   go_ret
   exact ⟨rfl, rfl⟩
 ·have h2 : 57343 < r := by omega
  have h3 : r ≤ 1114111 := by omega
  have h0 : 0 ≤ r := h.1
  clear h
  go_enter func297, ntmps297
  go_wp2
  all_goals
   go_ret
   exact ⟨rfl, rfl⟩
theorem firstIdx_none (s : ByteArray) (c : UInt8) (h : ∀ i, (hi : i < s.size) → s[i]'hi ≠ c) : firstIdx s c = -1 := by
 have hf : (List.range s.size).find? (fun i => s[i]! == c) = none := by
  rw [List.find?_eq_none]
  intro i hi
  have hi' : i < s.size := List.mem_range.1 hi
  have := h i hi'
  rw [getElem!_pos s i hi']
  simpa using this
 unfold firstIdx
 rw [hf]
theorem slice_from (S : ByteArray) (L : Nat) (h : L ≤ S.size) (ww : World) : (Instr.slice 9 (.string S) (some (.int .i64 (L : Int))) none none).run Tryz.prog ww = .ok (.string (S.extract L S.size)) ww := by
 have h0 : (0 : Int) ≤ (L : Int) := by omega
 have h1 : (L : Int) ≤ (S.size : Int) := by omega
 simp [Instr.slice, run_underlying underlying9, Instr.sliceBounds, go_sem, h0, h1]
theorem qt17 {P : Prop} (h : P := by
  obtain ⟨rfl, rfl, rfl, rfl⟩ := hrel
  go_wp2_with fail
  go_step3
  go_wp2_with fail
  go_region_held3 (fun ww => ∃ x, Hid (ww.os = x)) ((exact ⟨_, rfl⟩)) (fail)
  all_goals
   go_wp2_with fail
   go_region_held3 (fun ww => ∃ x, Hid (ww.os = x)) ((exact ⟨_, rfl⟩)) ((go_at_call 229; refine Calls.mono (HIX.out _ _) ?_; rintro e2 w2 ⟨rfl, rfl⟩))
  all_goals go_wp2
  all_goals rw [Exit.noGoto_ret]
  all_goals simp only [Exit.inBlock, Exit.then]
  all_goals rw [Exit.noGoto_ret]
  all_goals simp only [Exit.inBlock]
  all_goals
   first
    | (refine bodyPost_ret (v := .int .i64 (-1)) (by simp [results, results284, go_sem]) rfl ⟨rfl, ?_⟩ <;> exact qB)
 ) : P := h
theorem idxRune_high (r : Nat) (w : World) (h : 128 ≤ r) (hv : r ≤ 1114111 ∧ (r < 55296 ∨ 57344 ≤ r)) (hne : r ≠ 65533) :
  qC 284 #[.string kBr, .int .i32 r] w (.int .i64 (-1)) := by
 obtain ⟨l, c, he, hl1, hl3, hc⟩ := enc_last r h hv
 have hV : Hid (∀ ww, Calls Tryz.prog 297 #[.int .i32 (r : Int)] ww fun e w' => e = .returned (.bool true) ∧ w' = ww) := fun ww => validRune r ww qo
 have hcv : ∀ ww, (convert 21 9 (.int .i32 (r : Int))).run Tryz.prog ww = .ok (.string (Utf8.encode (r : Int))) ww := fun ww => by
  simp [convert, run_underlying underlying21, run_underlying underlying9]
  rfl
 generalize Utf8.encode (r : Int) = rs at *
 have hsz : rs.size = l.length + 1 := by
  rw [size_list, he]; simp
 have hlast : ∀ hk : l.length < rs.size, 128 ≤ (rs[l.length]'hk).toNat := fun hk => last_list he hc l.length hk hsz.symm
 have h1 : ¬ ((r : Int) < 128) := by omega
 have h0 : (0 : Int) ≤ (r : Int) := by omega
 have h2 : ((r : Int) == 65533) = false := by simp; omega
 clear he hc h hv hne
 generalize l.length = L at *
 have hL : L < rs.size := by omega
 have hla := hlast hL
 have HIX : Hid (∀ k ww, Calls Tryz.prog 229 #[.string (kBr.extract k kBr.size), .int .u8 ((rs[L]'hL).toNat : Int)] ww fun e w' => e = .returned (.int .i64 (-1)) ∧ w' = ww) := by
  intro k ww
  have := indexByte_any (kBr.extract k kBr.size) ((rs[L]'hL).toNat : Int) ww
  rw [firstIdx_none] at this
  ·exact this
  ·intro i hi hq
   have hi2 : k + i < kBr.size := by
    have := hi
    rw [ByteArray.size_extract] at this
    have h6 : kBr.size = 6 := rfl
    omega
   have e : (kBr.extract k kBr.size)[i]'hi = kBr[k + i]'hi2 := ByteArray.getElem_extract ..
   rw [e] at hq
   have := br_lt (k + i) hi2
   rw [hq] at this
   simp at this
   omega
 have hlt : ∀ k, (hk : k < kBr.size) → (kBr[k]'hk).toNat < 128 := br_lt
 have h6 : kBr.size = 6 := rfl
 generalize kBr = S at *
 rcases (by omega : L = 1 ∨ L = 2 ∨ L = 3) with rfl | rfl | rfl
 ·have hs1 : 1 < S.size := by omega
  have hx : ¬ (S[1]'hs1).toNat = (rs[1]'hL).toNat := by have := hlt 1 hs1; omega
  have hx' : (((S[1]'hs1).toNat : Int) == ((rs[1]'hL).toNat : Int)) = false := by simp; omega
  have hi1 : (1 : Int) < (S.size : Int) := by omega
  have hi2 : (2 : Int) ≤ (S.size : Int) := by omega
  have hi3 : (1 : Int) < (rs.size : Int) := by omega
  have hi4 : (rs.size : Int) - 1 = 1 := by omega
  have hwr : IntKind.i64.wrap 2 = 2 := by rw [IntKind.wrap_i64]; omega
  have hsl : ∀ ww, (Instr.slice 9 (.string S) (some (.int .i64 2)) none none).run Tryz.prog ww = .ok (.string (S.extract 2 S.size)) ww := slice_from S 2 qo
  clear hlast hl1 hl3 hlt hsz h6
  go_enter func284, ntmps284
  go_wp2_with fail
  refine Calls.mono (hV.out _) ?_
  rintro e w1 ⟨rfl, rfl⟩
  go_wp2_with fail
  go_step3
  go_wp2_with fail
  go_loopg [9, 10] 1 (fun g i f wx => g = 1 ∧ i = .int .i64 1 ∧ f = .int .i64 0 ∧ wx = w1)
  case atStart => exact ⟨rfl, rfl, rfl, rfl⟩
  case round =>
   exact qt17
 ·have hs2 : 2 < S.size := by omega
  have hx : ¬ (S[2]'hs2).toNat = (rs[2]'hL).toNat := by have := hlt 2 hs2; omega
  have hx' : (((S[2]'hs2).toNat : Int) == ((rs[2]'hL).toNat : Int)) = false := by simp; omega
  have hi1 : (2 : Int) < (S.size : Int) := by omega
  have hi2 : (3 : Int) ≤ (S.size : Int) := by omega
  have hi3 : (2 : Int) < (rs.size : Int) := by omega
  have hi4 : (rs.size : Int) - 1 = 2 := by omega
  have hwr : IntKind.i64.wrap 3 = 3 := by rw [IntKind.wrap_i64]; omega
  have hsl : ∀ ww, (Instr.slice 9 (.string S) (some (.int .i64 3)) none none).run Tryz.prog ww = .ok (.string (S.extract 3 S.size)) ww := slice_from S 3 qo
  clear hlast hl1 hl3 hlt hsz h6
  go_enter func284, ntmps284
  go_wp2_with fail
  refine Calls.mono (hV.out _) ?_
  rintro e w1 ⟨rfl, rfl⟩
  go_wp2_with fail
  go_step3
  go_wp2_with fail
  go_loopg [9, 10] 1 (fun g i f wx => g = 1 ∧ i = .int .i64 2 ∧ f = .int .i64 0 ∧ wx = w1)
  case atStart => exact ⟨rfl, rfl, rfl, rfl⟩
  case round =>
   exact qt17
 ·have hs3 : 3 < S.size := by omega
  have hx : ¬ (S[3]'hs3).toNat = (rs[3]'hL).toNat := by have := hlt 3 hs3; omega
  have hx' : (((S[3]'hs3).toNat : Int) == ((rs[3]'hL).toNat : Int)) = false := by simp; omega
  have hi1 : (3 : Int) < (S.size : Int) := by omega
  have hi2 : (4 : Int) ≤ (S.size : Int) := by omega
  have hi3 : (3 : Int) < (rs.size : Int) := by omega
  have hi4 : (rs.size : Int) - 1 = 3 := by omega
  have hwr : IntKind.i64.wrap 4 = 4 := by rw [IntKind.wrap_i64]; omega
  have hsl : ∀ ww, (Instr.slice 9 (.string S) (some (.int .i64 4)) none none).run Tryz.prog ww = .ok (.string (S.extract 4 S.size)) ww := slice_from S 4 qo
  clear hlast hl1 hl3 hlt hsz h6
  go_enter func284, ntmps284
  go_wp2_with fail
  refine Calls.mono (hV.out _) ?_
  rintro e w1 ⟨rfl, rfl⟩
  go_wp2_with fail
  go_step3
  go_wp2_with fail
  go_loopg [9, 10] 1 (fun g i f wx => g = 1 ∧ i = .int .i64 3 ∧ f = .int .i64 0 ∧ wx = w1)
  case atStart => exact ⟨rfl, rfl, rfl, rfl⟩
  case round =>
   exact qt17
