/- A part. -/
import Derived.Test.YtlendfhehhacpaaGreatP14
import Derived.Test.YtlendfhehhacpaaGreatP11
import Derived.Laws.RangeString
set_option linter.unusedVariables false
set_option linter.unusedSimpArgs false
set_option maxRecDepth 100000
set_option maxHeartbeats 8000000
namespace Go.Proofs.YtlendfhehhacpaaGreat
open Go.RowKit
theorem sInkAhead_any (s : ByteArray) (q : Nat) (w : World) (hs : s.size ≤ 1000) (hq : q < s.size) :
  qC 283 #[.string s, .int .i64 q] w (.int .i64 (Nib.dn (Nib.bgap s) q)) := by
 generalize hX : Nib.dn (Nib.bgap s) q = X
 have HX : Hid (Nib.dn (Nib.bgap s) q = X) := hX
 clear hX
 have hq' : q ≤ s.size := by omega
 have hm := Nib.lin_lt hq'
 have HL : qH 195 #[.string s, .int .i64 q] (.agg #[.int .i64 (Nib.att s (Nib.lin s q)), .int .i64 (Nib.fin s (Nib.att s (Nib.lin s q)))]) := by
  intro ww
  have := tLine_any s q q ww hs rfl hq'
  rw [Nib.fin_eq hq', Nib.beg_eq hq'] at this
  exact this
 go_enter Tryz.func283, Tryz.ntmps283
 go_wp2_with fail
 go_step3
 go_wp2_with fail
 refine (HL.out _).mono ?_
 rintro e w1 ⟨rfl, h1⟩
 obtain ⟨hc1, hf1, hz1⟩ := qb h1
 try simp at hz1
 go_wp2
 go_step3
 go_wp2
 go_loopg [1, 6] (Nib.lin s q + 1) (fun g pl mo wr => (∃ j pv : Nat, j < Nib.lns s ∧ g = j + 1 ∧ pl = .int .i64 pv ∧ pv < s.size ∧ Nib.att s j ≤ pv ∧ pv ≤ Nib.fin s (Nib.att s j) ∧ Hid (Nib.dn (Nib.bgap s) pv = X) ∧ mo = .bool true ∧ Two wr w1.heap.size (Nib.att s j) (Nib.fin s (Nib.att s j)) ∧ Below w.heap.size w wr) ∨ (pl = .int .i64 (-1) ∧ Hid (X = 0) ∧ mo = .bool false ∧ Below w.heap.size w wr))
 case atStart =>
  refine Or.inl ⟨Nib.lin s q, q, hm, rfl, rfl, hq, ?_, ?_, HX, rfl, Two.new _ _ _ _, ?_⟩
  ·rw [← Nib.beg_eq hq']; exact Nib.beg_le s q
  ·rw [← Nib.fin_eq hq']; exact Nib.fin_ge s q
  ·repeat exact qB
 case round =>
  rcases hrel with ⟨j, pv, hj, hg, rfl, hps, hpa, hpf, hu, rfl, T, hB⟩ | ⟨rfl, HZ, rfl, hB⟩
  ·have t0 := (T).c0
   have t1 := (T).c1
   have tz := (T).fz
   have tl := (T).lt
   have HE1 : qH 185 #[.agg #[.int .i64 (Nib.att s j), .int .i64 (Nib.fin s (Nib.att s j))]] (.bool (Nib.emp s (Nib.att s j))) := by
    intro ww; rw [Nib.emp_att hj]; exact tIsEmpty_any _ _ ww
   cases hem : Nib.emp s (Nib.att s j) with
   | true =>
    rw [hem] at HE1
    have HZ : Hid (X = pv) := by
     have h9 := hem
     rw [Nib.emp_att hj] at h9
     simp only [beq_iff_eq] at h9
     have e : pv = Nib.att s j := by omega
     rw [Hid, ← hu.out, Nib.bgap_emp (by rw [e]; exact hem)]
    clear hem hu
    go_wp2_with fail
    refine (HE1.out _).mono ?_
    rintro r2 w2 ⟨rfl, h2⟩
    obtain ⟨hc2, hf2, hz2⟩ := qb h2
    (try simp at hz2)
    have T2 : Two w2 (w1.heap.size) (Nib.att s j) (Nib.fin s (Nib.att s j)) := qTw
    have ⟨T2_0, T2_1, T2_z, T2_l⟩ := T2
    go_wp2
    (try rw [Exit.noGoto_ret])
    all_goals
     first
      | (exact qV (.int .i64 pv) (by simp [results, Tryz.results283, go_sem]) (ret_int (by rw [HZ.out])))
   | false =>
    rw [hem] at HE1
    have hlin := Nib.emp_att_ne hj hem
    have HEM : Hid (Nib.emp s (Nib.att s j) = false) := hem
    clear hem
    go_wp2_with fail
    refine (HE1.out _).mono ?_
    rintro r2 w2 ⟨rfl, h2⟩
    obtain ⟨hc2, hf2, hz2⟩ := qb h2
    (try simp at hz2)
    have T2 : Two w2 (w1.heap.size) (Nib.att s j) (Nib.fin s (Nib.att s j)) := qTw
    have ⟨T2_0, T2_1, T2_z, T2_l⟩ := T2
    clear hc2 hf2
    go_wp2
    go_loopg [1] (pv + 1 - Nib.att s j) (fun g2 pl wx => ∃ k : Nat, Nib.att s j ≤ k ∧ k ≤ pv + 1 ∧ g2 = k - Nib.att s j ∧ pl = .int .i64 ((k : Int) - 1) ∧ Hid (Nib.dn (Nib.bgap s) (k - 1) = X) ∧ wx = w2)
    case atStart => exact ⟨pv + 1, by omega, Nat.le_refl _, rfl, by go_num, hu, rfl⟩
    case round =>
     clear hu
     obtain ⟨k, hk1, hk2, hk3, rfl, hu, rfl⟩ := hrel
     by_cases hlt : Nib.att s j < k
     ·obtain ⟨i, rfl⟩ : ∃ i, k = i + 1 := ⟨k - 1, by omega⟩
      have e1 : ((i + 1 : Nat) : Int) - 1 = (i : Int) := by omega
      rw [e1]
      have his : i < s.size := by omega
      have hei := Nib.emp_in hj (show Nib.att s j ≤ i by omega) (show i ≤ Nib.fin s (Nib.att s j) by omega) hlin
      have HI : Hid (∀ ww, Calls Tryz.prog 247 #[.string s, .int .i64 i] ww fun e w' => e = .returned (.bool (!Nib.spc (Nib.bt s i))) ∧ w' = ww) := by
       intro ww
       have := sHasInk_any s i i ww hs rfl qo
       rw [decide_eq_true his, Bool.true_and] at this
       exact this
      have hle' : ((Nib.att s j : Nat) : Int) ≤ (i : Int) := by omega
      cases hsp : Nib.spc (Nib.bt s i) with
      | false =>
       have HS : Hid (X = i) := by
        rw [Hid, ← hu.out, Nat.add_sub_cancel, Nib.bgap_ink hsp]
       rw [hsp] at HI
       clear hsp hu e1 hei
       go_wp2_with fail
       refine (HI.out _).mono ?_
       rintro e w' ⟨rfl, rfl⟩
       go_wp2
       (try rw [Exit.noGoto_ret])
       all_goals
        first
         | (exact qV (.int .i64 i) (by simp [results, Tryz.results283, go_sem]) (ret_int (by rw [HS.out])))
      | true =>
       have HS : Hid (Nib.dn (Nib.bgap s) (i - 1) = X) := by
        rw [Hid, ← hu.out, Nat.add_sub_cancel, Nib.bgap_go hsp hei]
       rw [hsp] at HI
       clear hsp hu e1 hei
       go_wp2_with fail
       refine (HI.out _).mono ?_
       rintro e w' ⟨rfl, rfl⟩
       go_wp2
       go_roundg (i - Nib.att s j)
       case measure => omega
       case rel => exact ⟨i, by omega, by omega, rfl, by go_num, HS, rfl⟩
     ·have ek : k = Nib.att s j := by omega
      subst ek
      have hge : ¬ ((Nib.att s j : Nat) : Int) ≤ ((Nib.att s j : Nat) : Int) - 1 := by omega
      by_cases h0 : 0 < j
      ·have hbes : Nib.fin s (Nib.att s (j - 1)) + 1 = Nib.att s j := by
        obtain ⟨i, rfl⟩ : ∃ i, j = i + 1 := ⟨j - 1, by omega⟩
        rfl
       have HBs : qH 223 #[.string s, .agg #[.int .i64 (Nib.att s j), .int .i64 (Nib.fin s (Nib.att s j))], .int .i64 (-1)] (.tuple #[.agg #[.int .i64 (Nib.att s (j - 1)), .int .i64 (Nib.fin s (Nib.att s (j - 1)))], .bool true]) := fun ww => tBeside_up s _ _ _ j ww hs rfl hj rfl h0
       have HQ : Hid (Nib.fin s (Nib.att s (j - 1)) + 1 = Nib.att s j) := hbes
       clear hbes
       go_wp2_with fail
       refine (HBs.out _).mono ?_
       rintro r3 w3 ⟨rfl, h3⟩
       obtain ⟨hc3, hf3, hz3⟩ := qb h3
       (try simp at hz3)
       have T23 : Two w3 (w1.heap.size) (Nib.att s j) (Nib.fin s (Nib.att s j)) := qTw
       have ⟨T23_0, T23_1, T23_z, T23_l⟩ := T23
       clear hc3 hf3
       go_wp2
       have hq9 := HQ.out
       go_roundg j
       case measure => omega
       case rel =>
        refine Or.inl ⟨j - 1, Nib.att s j - 1, by omega, by omega, by congr 1; omega, by omega, ?_, by omega, hu, rfl, Two.set1 (Two.set0 T23 _) _, ?_⟩
        ·have := Nib.fin_ge s (Nib.att s (j - 1)); omega
        ·repeat exact qB
      ·have e0 : j = 0 := by omega
       have ea : Nib.att s j = 0 := by rw [e0]; rfl
       have HZ : Hid (X = 0) := by rw [Hid, ← hu.out, ea]; rfl
       have HBs : qH 223 #[.string s, .agg #[.int .i64 (Nib.att s j), .int .i64 (Nib.fin s (Nib.att s j))], .int .i64 (-1)] (.tuple #[.agg #[.int .i64 (0), .int .i64 (0)], .bool false]) := fun ww => tBeside_none s _ _ _ ww hs (Or.inr rfl) (fun h => by omega) (fun _ => by omega)
       have HA : Hid (Nib.att s j = 0) := ea
       clear ea e0
       go_wp2_with fail
       refine (HBs.out _).mono ?_
       rintro r3 w3 ⟨rfl, h3⟩
       obtain ⟨hc3, hf3, hz3⟩ := qb h3
       (try simp at hz3)
       have T23 : Two w3 (w1.heap.size) (Nib.att s j) (Nib.fin s (Nib.att s j)) := qTw
       have ⟨T23_0, T23_1, T23_z, T23_l⟩ := T23
       clear hc3 hf3
       go_wp2
       have ha9 := HA.out
       go_roundg 0
       case measure => omega
       case rel =>
        refine Or.inr ⟨by congr 1; omega, HZ, rfl, ?_⟩
        repeat exact qB
  ·go_wp2
   (try rw [Exit.noGoto_ret])
   all_goals
    first
     | (exact qV (.int .i64 0) (by simp [results, Tryz.results283, go_sem]) (ret_int (by rw [HZ.out]; rfl)))
def kBr : ByteArray := ⟨#[40, 41, 91, 93, 123, 125]⟩
theorem br_lt (i : Nat) (hi : i < kBr.size) : (kBr[i]'hi).toNat < 128 := by
 have hall : ∀ k : Fin 6, (kBr[k.1]'k.2).toNat < 128 := by decide
 exact hall ⟨i, hi⟩
theorem iter_below (w : World) (s : ByteArray) (p : Nat) : Below w.heap.size w (w.iter s p) := (Below.refl _ _).alloc (Nat.le_refl _) _
theorem idxRune_err (w : World) :
  qC 284 #[.string kBr, .int .i32 65533] w (.int .i64 (-1)) := by
 go_enter Tryz.func284, Tryz.ntmps284
 go_wp2
 go_loopg [5, 6] 6 (fun g _ _ wx => ∃ i : Nat, i + g = 6 ∧ wx = w.iter kBr i)
 case atStart => exact ⟨0, by omega, rfl⟩
 case round =>
  obtain ⟨i, hig, rfl⟩ := hrel
  cases gk with
  | zero =>
   obtain rfl : i = 6 := by omega
   have hnx := fun ty => run_next_end (P := Tryz.prog) w kBr 6 ty qd
   go_wp2
   go_ret
   exact ⟨rfl, iter_below _ _ _⟩
  | succ g =>
   have hi : i < kBr.size := by show i < 6; omega
   have ha : (kBr[i]'hi).toNat < 128 := br_lt i hi
   have hnx := fun ty => run_next_ascii (P := Tryz.prog) w kBr i ty hi ha
   have hne : (((kBr[i]'hi).toNat : Int) == 65533) = false := by simp; omega
   generalize (kBr[i]'hi).toNat = X at *
   go_wp2
   go_roundg g
   case measure => omega
   case rel => exact ⟨i + 1, by omega, rfl⟩
theorem validRune (r : Int) (w : World) (h : 0 ≤ r ∧ (r < 55296 ∨ (57344 ≤ r ∧ r ≤ 1114111))) :
  Calls Tryz.prog 297 #[.int .i32 r] w fun e w' => e = .returned (.bool true) ∧ w' = w := by
 by_cases h1 : r < 55296
 ·have h0 : 0 ≤ r := h.1
  clear h
  go_enter Tryz.func297, Tryz.ntmps297
  go_wp2
  all_goals
   go_ret
   exact ⟨rfl, rfl⟩
 ·have h2 : 57343 < r := by omega
  have h3 : r ≤ 1114111 := by omega
  have h0 : 0 ≤ r := h.1
  clear h
  go_enter Tryz.func297, Tryz.ntmps297
  go_wp2
  all_goals
   go_ret
   exact ⟨rfl, rfl⟩
theorem firstIdx_none (s : ByteArray) (c : UInt8) (h : ∀ i, (hi : i < s.size) → s[i]'hi ≠ c) : firstIdx s c = -1 := by
 have hf : (List.range s.size).find? (fun i => s[i]! == c) = none := by
  rw [List.find?_eq_none]
  intro i hi
  have hi' : i < s.size := List.mem_range.1 hi
  have := h i hi'
  rw [getElem!_pos s i hi']
  simpa using this
 unfold firstIdx
 rw [hf]
theorem slice_from (S : ByteArray) (L : Nat) (h : L ≤ S.size) (ww : World) : (Instr.slice 9 (.string S) (some (.int .i64 (L : Int))) none none).run Tryz.prog ww = .ok (.string (S.extract L S.size)) ww := by
 have h0 : (0 : Int) ≤ (L : Int) := by omega
 have h1 : (L : Int) ≤ (S.size : Int) := by omega
 simp [Instr.slice, run_underlying Tryz.underlying9, Instr.sliceBounds, go_sem, h0, h1]
theorem qt24 {P : Prop} (h : P := by
  obtain ⟨rfl, rfl, rfl, rfl⟩ := hrel
  go_wp2_with fail
  go_step3
  go_wp2_with fail
  go_region_held3 (fun ww => ∃ x, Hid (ww.os = x)) ((exact ⟨_, rfl⟩)) (fail)
  all_goals
   go_wp2_with fail
   go_region_held3 (fun ww => ∃ x, Hid (ww.os = x)) ((exact ⟨_, rfl⟩)) ((go_at_call 229; refine Calls.mono (HIX.out _ _) ?_; rintro e2 w2 ⟨rfl, rfl⟩))
  all_goals go_wp2
  all_goals rw [Exit.noGoto_ret]
  all_goals simp only [Exit.inBlock, Exit.then]
  all_goals rw [Exit.noGoto_ret]
  all_goals simp only [Exit.inBlock]
  all_goals
   first
    | (refine bodyPost_ret (v := .int .i64 (-1)) (by simp [results, Tryz.results284, go_sem]) rfl ⟨rfl, ?_⟩ <;> repeat (with_reducible first | exact Below.refl _ _ | refine b_s ?_ _ | refine b_a ?_ _ | refine Below.drew ?_ | refine below_drewN ?_ _))
 ) : P := h
theorem idxRune_high (r : Nat) (w : World) (h : 128 ≤ r) (hv : r ≤ 1114111 ∧ (r < 55296 ∨ 57344 ≤ r)) (hne : r ≠ 65533) :
  qC 284 #[.string kBr, .int .i32 r] w (.int .i64 (-1)) := by
 obtain ⟨l, c, he, hl1, hl3, hc⟩ := Nib.enc_last r h hv
 have hV : Hid (∀ ww, Calls Tryz.prog 297 #[.int .i32 (r : Int)] ww fun e w' => e = .returned (.bool true) ∧ w' = ww) := fun ww => validRune r ww qo
 have hcv : ∀ ww, (convert 21 9 (.int .i32 (r : Int))).run Tryz.prog ww = .ok (.string (Utf8.encode (r : Int))) ww := fun ww => by
  simp [convert, run_underlying Tryz.underlying21, run_underlying Tryz.underlying9]
  rfl
 generalize Utf8.encode (r : Int) = rs at *
 have hsz : rs.size = l.length + 1 := by
  rw [Nib.size_list, he]; simp
 have hlast : ∀ hk : l.length < rs.size, 128 ≤ (rs[l.length]'hk).toNat := fun hk => Nib.last_list he hc l.length hk hsz.symm
 have h1 : ¬ ((r : Int) < 128) := by omega
 have h0 : (0 : Int) ≤ (r : Int) := by omega
 have h2 : ((r : Int) == 65533) = false := by simp; omega
 clear he hc h hv hne
 generalize l.length = L at *
 have hL : L < rs.size := by omega
 have hla := hlast hL
 have HIX : Hid (∀ k ww, Calls Tryz.prog 229 #[.string (kBr.extract k kBr.size), .int .u8 ((rs[L]'hL).toNat : Int)] ww fun e w' => e = .returned (.int .i64 (-1)) ∧ w' = ww) := by
  intro k ww
  have := indexByte_any (kBr.extract k kBr.size) ((rs[L]'hL).toNat : Int) ww
  rw [firstIdx_none] at this
  ·exact this
  ·intro i hi hq
   have hi2 : k + i < kBr.size := by
    have := hi
    rw [ByteArray.size_extract] at this
    have h6 : kBr.size = 6 := rfl
    omega
   have e : (kBr.extract k kBr.size)[i]'hi = kBr[k + i]'hi2 := ByteArray.getElem_extract ..
   rw [e] at hq
   have := br_lt (k + i) hi2
   rw [hq] at this
   simp at this
   omega
 have hlt : ∀ k, (hk : k < kBr.size) → (kBr[k]'hk).toNat < 128 := br_lt
 have h6 : kBr.size = 6 := rfl
 generalize kBr = S at *
 rcases (by omega : L = 1 ∨ L = 2 ∨ L = 3) with rfl | rfl | rfl
 ·have hs1 : 1 < S.size := by omega
  have hx : ¬ (S[1]'hs1).toNat = (rs[1]'hL).toNat := by have := hlt 1 hs1; omega
  have hx' : (((S[1]'hs1).toNat : Int) == ((rs[1]'hL).toNat : Int)) = false := by simp; omega
  have hi1 : (1 : Int) < (S.size : Int) := by omega
  have hi2 : (2 : Int) ≤ (S.size : Int) := by omega
  have hi3 : (1 : Int) < (rs.size : Int) := by omega
  have hi4 : (rs.size : Int) - 1 = 1 := by omega
  have hwr : IntKind.i64.wrap 2 = 2 := by rw [IntKind.wrap_i64]; omega
  have hsl : ∀ ww, (Instr.slice 9 (.string S) (some (.int .i64 2)) none none).run Tryz.prog ww = .ok (.string (S.extract 2 S.size)) ww := slice_from S 2 qo
  clear hlast hl1 hl3 hlt hsz h6
  go_enter Tryz.func284, Tryz.ntmps284
  go_wp2_with fail
  refine Calls.mono (hV.out _) ?_
  rintro e w1 ⟨rfl, rfl⟩
  go_wp2_with fail
  go_step3
  go_wp2_with fail
  go_loopg [9, 10] 1 (fun g i f wx => g = 1 ∧ i = .int .i64 1 ∧ f = .int .i64 0 ∧ wx = w1)
  case atStart => exact ⟨rfl, rfl, rfl, rfl⟩
  case round =>
   exact qt24
 ·have hs2 : 2 < S.size := by omega
  have hx : ¬ (S[2]'hs2).toNat = (rs[2]'hL).toNat := by have := hlt 2 hs2; omega
  have hx' : (((S[2]'hs2).toNat : Int) == ((rs[2]'hL).toNat : Int)) = false := by simp; omega
  have hi1 : (2 : Int) < (S.size : Int) := by omega
  have hi2 : (3 : Int) ≤ (S.size : Int) := by omega
  have hi3 : (2 : Int) < (rs.size : Int) := by omega
  have hi4 : (rs.size : Int) - 1 = 2 := by omega
  have hwr : IntKind.i64.wrap 3 = 3 := by rw [IntKind.wrap_i64]; omega
  have hsl : ∀ ww, (Instr.slice 9 (.string S) (some (.int .i64 3)) none none).run Tryz.prog ww = .ok (.string (S.extract 3 S.size)) ww := slice_from S 3 qo
  clear hlast hl1 hl3 hlt hsz h6
  go_enter Tryz.func284, Tryz.ntmps284
  go_wp2_with fail
  refine Calls.mono (hV.out _) ?_
  rintro e w1 ⟨rfl, rfl⟩
  go_wp2_with fail
  go_step3
  go_wp2_with fail
  go_loopg [9, 10] 1 (fun g i f wx => g = 1 ∧ i = .int .i64 2 ∧ f = .int .i64 0 ∧ wx = w1)
  case atStart => exact ⟨rfl, rfl, rfl, rfl⟩
  case round =>
   exact qt24
 ·have hs3 : 3 < S.size := by omega
  have hx : ¬ (S[3]'hs3).toNat = (rs[3]'hL).toNat := by have := hlt 3 hs3; omega
  have hx' : (((S[3]'hs3).toNat : Int) == ((rs[3]'hL).toNat : Int)) = false := by simp; omega
  have hi1 : (3 : Int) < (S.size : Int) := by omega
  have hi2 : (4 : Int) ≤ (S.size : Int) := by omega
  have hi3 : (3 : Int) < (rs.size : Int) := by omega
  have hi4 : (rs.size : Int) - 1 = 3 := by omega
  have hwr : IntKind.i64.wrap 4 = 4 := by rw [IntKind.wrap_i64]; omega
  have hsl : ∀ ww, (Instr.slice 9 (.string S) (some (.int .i64 4)) none none).run Tryz.prog ww = .ok (.string (S.extract 4 S.size)) ww := slice_from S 4 qo
  clear hlast hl1 hl3 hlt hsz h6
  go_enter Tryz.func284, Tryz.ntmps284
  go_wp2_with fail
  refine Calls.mono (hV.out _) ?_
  rintro e w1 ⟨rfl, rfl⟩
  go_wp2_with fail
  go_step3
  go_wp2_with fail
  go_loopg [9, 10] 1 (fun g i f wx => g = 1 ∧ i = .int .i64 3 ∧ f = .int .i64 0 ∧ wx = w1)
  case atStart => exact ⟨rfl, rfl, rfl, rfl⟩
  case round =>
   exact qt24
end Go.Proofs.YtlendfhehhacpaaGreat
