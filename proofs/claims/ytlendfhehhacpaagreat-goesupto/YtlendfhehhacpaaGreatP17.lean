/- Joined of the texts WalkK, WalkO. -/
import Derived.Test.YtlendfhehhacpaaGreatP16
import Derived.Deep.RegionHeld3
set_option linter.unusedVariables false
set_option linter.unusedSimpArgs false
set_option maxRecDepth 100000
set_option maxHeartbeats 8000000
namespace Go.Proofs.YtlendfhehhacpaaGreat
open Go.RowKit
theorem slot_any (c : Int) (w : World) (h0 : 0 ≤ c) (h1 : c < 256) :
    Calls Tryz.prog 45 #[.int .u8 c] w fun e w' => e = .returned (.int .i64 (Nib.slotN c)) ∧ w' = w := by
  have HS : Hid (Nib.slotN c = if c = 34 then 26 else if 97 ≤ c ∧ c ≤ 122 then c - 97 else -1) := rfl
  generalize Nib.slotN c = x at HS ⊢
  by_cases h2 : c = 34
  · have h2' : (c == 34) = true := by simp [h2]
    rw [Hid, if_pos h2] at HS
    have HT : Hid (x = 26) := HS
    clear HS h2
    go_enter Tryz.func45, Tryz.ntmps45
    go_wp2
    go_ret
    exact ⟨ret_int (by rw [HT.out]), rfl⟩
  · have h2' : (c == 34) = false := by simp [h2]
    rw [Hid, if_neg h2] at HS
    have HT : Hid (x = if 97 ≤ c ∧ c ≤ 122 then c - 97 else -1) := HS
    clear HS h2
    go_enter Tryz.func45, Tryz.ntmps45
    go_wp2
    all_goals
      go_ret
      exact ⟨ret_int (by rw [HT.out]; split <;> omega), rfl⟩
theorem readObject_any (x : Nib.Cmd) (c : Int) (rest : ByteArray) (w : World) :
    Calls Tryz.prog 69 #[.agg #[.bool x.more, .bool x.bad, .int .i64 x.reg, .int .i64 x.n, .bool x.given, .int .u8 x.verb, .bool x.twice, .int .u8 x.object, .bool x.around, .int .u8 x.way, .int .u8 x.other, .int .u8 x.c], .int .u8 c, .string rest] w fun e w' => e = .returned (.agg #[.bool (Nib.rdObject x c rest).more, .bool (Nib.rdObject x c rest).bad, .int .i64 (Nib.rdObject x c rest).reg, .int .i64 (Nib.rdObject x c rest).n, .bool (Nib.rdObject x c rest).given, .int .u8 (Nib.rdObject x c rest).verb, .bool (Nib.rdObject x c rest).twice, .int .u8 (Nib.rdObject x c rest).object, .bool (Nib.rdObject x c rest).around, .int .u8 (Nib.rdObject x c rest).way, .int .u8 (Nib.rdObject x c rest).other, .int .u8 (Nib.rdObject x c rest).c]) ∧ Below w.heap.size w w' := by
  generalize hy : Nib.rdObject x c rest = y
  have HY : Hid (Nib.rdObject x c rest = y) := hy
  clear hy
  go_enter Tryz.func69, Tryz.ntmps69
  by_cases hr : rest.size = 0
  · have HZ : Hid (y = Nib.cMore) := by rw [Hid, ← HY.out, Nib.rdObject, if_pos hr]
    have hre := str_em hr
    clear HY hr
    go_wp2_with fail
    refine (more_any _).mono ?_
    rintro e w3 ⟨rfl, h3⟩
    obtain ⟨hc3, hf3⟩ := bcell h3
    have hz3 := h3.size
    try simp at hz3
    go_wp2
    refine bodyPost_ret (v := .agg #[.bool Nib.cMore.more, .bool Nib.cMore.bad, .int .i64 Nib.cMore.reg, .int .i64 Nib.cMore.n, .bool Nib.cMore.given, .int .u8 Nib.cMore.verb, .bool Nib.cMore.twice, .int .u8 Nib.cMore.object, .bool Nib.cMore.around, .int .u8 Nib.cMore.way, .int .u8 Nib.cMore.other, .int .u8 Nib.cMore.c]) (by simp [results, Tryz.results69, go_sem, hc3, hz3]) rfl ⟨by rw [HZ.out], ?_⟩
    repeat (with_reducible first | exact Below.refl _ _ | refine b_s ?_ _ | refine b_a ?_ _ | refine Below.drew ?_ | refine below_drewN ?_ _ | refine b_t ?_ h3)
  · have hlt : 0 < rest.size := by omega
    have hne := str_ne hlt
    cases h2 : Nib.mem Nib.kObjs (Nib.bt rest 0) with
    | true =>
      have HZ : Hid (y = Nib.cOb x ((rest[0]'hlt).toNat : Int) (c == 97)) := by rw [Hid, ← HY.out, Nib.rdObject, if_neg hr, if_pos h2, Nib.bt_in hlt]
      rw [Nib.bt_in hlt] at h2
      clear HY hr
      go_wp2_with fail
      refine (in_any Nib.kObjs _ _ (by decide)).mono ?_
      rintro e w' ⟨rfl, rfl⟩
      go_wp2
      refine bodyPost_ret (v := .agg #[.bool (Nib.cOb x ((rest[0]'hlt).toNat : Int) (c == 97)).more, .bool (Nib.cOb x ((rest[0]'hlt).toNat : Int) (c == 97)).bad, .int .i64 (Nib.cOb x ((rest[0]'hlt).toNat : Int) (c == 97)).reg, .int .i64 (Nib.cOb x ((rest[0]'hlt).toNat : Int) (c == 97)).n, .bool (Nib.cOb x ((rest[0]'hlt).toNat : Int) (c == 97)).given, .int .u8 (Nib.cOb x ((rest[0]'hlt).toNat : Int) (c == 97)).verb, .bool (Nib.cOb x ((rest[0]'hlt).toNat : Int) (c == 97)).twice, .int .u8 (Nib.cOb x ((rest[0]'hlt).toNat : Int) (c == 97)).object, .bool (Nib.cOb x ((rest[0]'hlt).toNat : Int) (c == 97)).around, .int .u8 (Nib.cOb x ((rest[0]'hlt).toNat : Int) (c == 97)).way, .int .u8 (Nib.cOb x ((rest[0]'hlt).toNat : Int) (c == 97)).other, .int .u8 (Nib.cOb x ((rest[0]'hlt).toNat : Int) (c == 97)).c]) (by simp [results, Tryz.results69, go_sem, Nib.cOb]) rfl ⟨by rw [HZ.out], ?_⟩
      repeat (with_reducible first | exact Below.refl _ _ | refine b_s ?_ _ | refine b_a ?_ _ | refine Below.drew ?_ | refine below_drewN ?_ _)
    | false =>
      have HZ : Hid (y = Nib.cBad) := by rw [Hid, ← HY.out, Nib.rdObject, if_neg hr, if_neg (by simp [h2])]
      rw [Nib.bt_in hlt] at h2
      clear HY hr
      go_wp2_with fail
      refine (in_any Nib.kObjs _ _ (by decide)).mono ?_
      rintro e w' ⟨rfl, rfl⟩
      go_wp2_with fail
      refine (bad_any _).mono ?_
      rintro e w3 ⟨rfl, h3⟩
      obtain ⟨hc3, hf3⟩ := bcell h3
      have hz3 := h3.size
      try simp at hz3
      go_wp2
      refine bodyPost_ret (v := .agg #[.bool Nib.cBad.more, .bool Nib.cBad.bad, .int .i64 Nib.cBad.reg, .int .i64 Nib.cBad.n, .bool Nib.cBad.given, .int .u8 Nib.cBad.verb, .bool Nib.cBad.twice, .int .u8 Nib.cBad.object, .bool Nib.cBad.around, .int .u8 Nib.cBad.way, .int .u8 Nib.cBad.other, .int .u8 Nib.cBad.c]) (by simp [results, Tryz.results69, go_sem, hc3, hz3]) rfl ⟨by rw [HZ.out], ?_⟩
      repeat (with_reducible first | exact Below.refl _ _ | refine b_s ?_ _ | refine b_a ?_ _ | refine Below.drew ?_ | refine below_drewN ?_ _ | refine b_t ?_ h3)
theorem readMarked_any (x : Nib.Cmd) (c : Int) (rest : ByteArray) (w : World) :
    Calls Tryz.prog 56 #[.agg #[.bool x.more, .bool x.bad, .int .i64 x.reg, .int .i64 x.n, .bool x.given, .int .u8 x.verb, .bool x.twice, .int .u8 x.object, .bool x.around, .int .u8 x.way, .int .u8 x.other, .int .u8 x.c], .int .u8 c, .string rest] w fun e w' => e = .returned (.agg #[.bool (Nib.rdMarked x c rest).more, .bool (Nib.rdMarked x c rest).bad, .int .i64 (Nib.rdMarked x c rest).reg, .int .i64 (Nib.rdMarked x c rest).n, .bool (Nib.rdMarked x c rest).given, .int .u8 (Nib.rdMarked x c rest).verb, .bool (Nib.rdMarked x c rest).twice, .int .u8 (Nib.rdMarked x c rest).object, .bool (Nib.rdMarked x c rest).around, .int .u8 (Nib.rdMarked x c rest).way, .int .u8 (Nib.rdMarked x c rest).other, .int .u8 (Nib.rdMarked x c rest).c]) ∧ Below w.heap.size w w' := by
  generalize hy : Nib.rdMarked x c rest = y
  have HY : Hid (Nib.rdMarked x c rest = y) := hy
  clear hy
  by_cases ho : c = 105 ∨ c = 97
  · have HZ : Hid (y = Nib.rdObject x c rest) := by rw [Hid, ← HY.out, Nib.rdMarked, if_pos ho]
    clear HY
    rcases ho with ho | ho
    · have h1 : (c == 105) = true := by simp [ho]
      clear ho
      go_enter Tryz.func56, Tryz.ntmps56
      go_wp2_with fail
      refine (readObject_any _ _ _ _).mono ?_
      rintro e w3 ⟨rfl, h3⟩
      obtain ⟨hc3, hf3⟩ := bcell h3
      have hz3 := h3.size
      try simp at hz3
      go_wp2
      refine bodyPost_ret (v := .agg #[.bool (Nib.rdObject x c rest).more, .bool (Nib.rdObject x c rest).bad, .int .i64 (Nib.rdObject x c rest).reg, .int .i64 (Nib.rdObject x c rest).n, .bool (Nib.rdObject x c rest).given, .int .u8 (Nib.rdObject x c rest).verb, .bool (Nib.rdObject x c rest).twice, .int .u8 (Nib.rdObject x c rest).object, .bool (Nib.rdObject x c rest).around, .int .u8 (Nib.rdObject x c rest).way, .int .u8 (Nib.rdObject x c rest).other, .int .u8 (Nib.rdObject x c rest).c]) (by simp [results, Tryz.results56, go_sem, hc3, hz3]) rfl ⟨by rw [HZ.out], ?_⟩
      repeat (with_reducible first | exact Below.refl _ _ | refine b_s ?_ _ | refine b_a ?_ _ | refine Below.drew ?_ | refine below_drewN ?_ _ | refine b_t ?_ h3)
    · have h1 : (c == 105) = false := by simp [ho]
      have h2 : (c == 97) = true := by simp [ho]
      clear ho
      go_enter Tryz.func56, Tryz.ntmps56
      go_wp2_with fail
      refine (readObject_any _ _ _ _).mono ?_
      rintro e w3 ⟨rfl, h3⟩
      obtain ⟨hc3, hf3⟩ := bcell h3
      have hz3 := h3.size
      try simp at hz3
      go_wp2
      refine bodyPost_ret (v := .agg #[.bool (Nib.rdObject x c rest).more, .bool (Nib.rdObject x c rest).bad, .int .i64 (Nib.rdObject x c rest).reg, .int .i64 (Nib.rdObject x c rest).n, .bool (Nib.rdObject x c rest).given, .int .u8 (Nib.rdObject x c rest).verb, .bool (Nib.rdObject x c rest).twice, .int .u8 (Nib.rdObject x c rest).object, .bool (Nib.rdObject x c rest).around, .int .u8 (Nib.rdObject x c rest).way, .int .u8 (Nib.rdObject x c rest).other, .int .u8 (Nib.rdObject x c rest).c]) (by simp [results, Tryz.results56, go_sem, hc3, hz3]) rfl ⟨by rw [HZ.out], ?_⟩
      repeat (with_reducible first | exact Below.refl _ _ | refine b_s ?_ _ | refine b_a ?_ _ | refine Below.drew ?_ | refine below_drewN ?_ _ | refine b_t ?_ h3)
  · have h1 : (c == 105) = false := by simp; omega
    have h2 : (c == 97) = false := by simp; omega
    go_enter Tryz.func56, Tryz.ntmps56
    go_wp2_with fail
    refine (in_any Nib.kMark c _ (by decide)).mono ?_
    rintro e w' ⟨rfl, rfl⟩
    cases h3 : Nib.mem Nib.kMark c with
    | true =>
      have HZ : Hid (y = Nib.cO x c) := by rw [Hid, ← HY.out, Nib.rdMarked, if_neg ho, if_pos h3]
      clear HY ho
      go_wp2
      refine bodyPost_ret (v := .agg #[.bool (Nib.cO x c).more, .bool (Nib.cO x c).bad, .int .i64 (Nib.cO x c).reg, .int .i64 (Nib.cO x c).n, .bool (Nib.cO x c).given, .int .u8 (Nib.cO x c).verb, .bool (Nib.cO x c).twice, .int .u8 (Nib.cO x c).object, .bool (Nib.cO x c).around, .int .u8 (Nib.cO x c).way, .int .u8 (Nib.cO x c).other, .int .u8 (Nib.cO x c).c]) (by simp [results, Tryz.results56, go_sem, Nib.cO]) rfl ⟨by rw [HZ.out], ?_⟩
      repeat (with_reducible first | exact Below.refl _ _ | refine b_s ?_ _ | refine b_a ?_ _ | refine Below.drew ?_ | refine below_drewN ?_ _)
    | false =>
      have HZ : Hid (y = Nib.rdWay x c rest) := by rw [Hid, ← HY.out, Nib.rdMarked, if_neg ho, if_neg (by simp [h3])]
      clear HY ho
      go_wp2_with fail
      refine (readWay_any _ _ _ _).mono ?_
      rintro e w4 ⟨rfl, h4⟩
      obtain ⟨hc4, hf4⟩ := bcell h4
      have hz4 := h4.size
      try simp at hz4
      go_wp2
      refine bodyPost_ret (v := .agg #[.bool (Nib.rdWay x c rest).more, .bool (Nib.rdWay x c rest).bad, .int .i64 (Nib.rdWay x c rest).reg, .int .i64 (Nib.rdWay x c rest).n, .bool (Nib.rdWay x c rest).given, .int .u8 (Nib.rdWay x c rest).verb, .bool (Nib.rdWay x c rest).twice, .int .u8 (Nib.rdWay x c rest).object, .bool (Nib.rdWay x c rest).around, .int .u8 (Nib.rdWay x c rest).way, .int .u8 (Nib.rdWay x c rest).other, .int .u8 (Nib.rdWay x c rest).c]) (by simp [results, Tryz.results56, go_sem, hc4, hz4]) rfl ⟨by rw [HZ.out], ?_⟩
      repeat (with_reducible first | exact Below.refl _ _ | refine b_s ?_ _ | refine b_a ?_ _ | refine Below.drew ?_ | refine below_drewN ?_ _ | refine b_t ?_ h4)
theorem up_list {s : ByteArray} (c : Int) : Nib.mem s c = s.data.toList.any (fun x => (x.toNat : Int) == c) := by
  rw [Bool.eq_iff_iff]
  simp only [Nib.mem, decide_eq_true_eq, List.any_eq_true, beq_iff_eq]
  constructor
  · intro h
    have e := Nib.up_end (c := fun i => Nib.bt s i != c) h
    refine ⟨s[Nib.up (fun i => Nib.bt s i != c) s.size 0]'h, ?_, ?_⟩
    · rw [show s[Nib.up (fun i => Nib.bt s i != c) s.size 0]'h = s.data.toList[Nib.up (fun i => Nib.bt s i != c) s.size 0]'(by simpa using h) from rfl]
      exact List.getElem_mem _
    · rw [← Nib.bt_in h]; simpa using e
  · rintro ⟨x, hx, hc⟩
    obtain ⟨i, hi, rfl⟩ := List.getElem_of_mem hx
    have hi' : i < s.size := by simpa using hi
    by_cases h : Nib.up (fun i => Nib.bt s i != c) s.size 0 < s.size
    · exact h
    · have := Nib.up_all (c := fun i => Nib.bt s i != c) (n := s.size) (p := 0) (i := i) (Nat.zero_le _) (by omega)
      simp only [bne_iff_ne, ne_eq] at this
      exact absurd (by rw [Nib.bt_in hi', ← hc]; rfl) this
theorem mem_kFind (c : Int) : Nib.mem Nib.kFind c = Nib.isFind c := by
  rw [up_list]
  rw [Bool.eq_iff_iff]
  simp [Nib.kFind, Nib.isFind]
  omega
theorem way_plain (b : Nat) (e : Nib.Ed) (x : Nib.Cmd) (v : Bool) (dv uv : Value) (w : World) (h : EdAt w b e dv uv) (hs : e.t.size ≤ 1000) (hp : e.p ≤ e.t.size) (hn1 : 1 ≤ x.n) (hn : x.n ≤ 99)
    (hw : Nib.isWay x.way = true) (hnf : Nib.isFind x.way = false) :
    Calls Tryz.prog 88 #[.pointer (some ⟨b, 0, none⟩), .agg #[.bool x.more, .bool x.bad, .int .i64 x.reg, .int .i64 x.n, .bool x.given, .int .u8 x.verb, .bool x.twice, .int .u8 x.object, .bool x.around, .int .u8 x.way, .int .u8 x.other, .int .u8 x.c], .bool v] w fun r w' =>
      r = .returned (.agg #[.int .i64 (Nib.wayOf e x v).1, .int .i64 (Nib.wayOf e x v).2.1, .bool (Nib.wayOf e x v).2.2]) ∧ EdAt w' b (Nib.wayEd e x) dv uv ∧ Upd [b] w w' := by
  have H := h
  obtain ⟨c0, c1, c2, c3, c4, cS, cL, c59, c60, c61, c62, c63, c64, c65, c66, c67, c68, c69, fz, lt⟩ := h
  clear cS cL c2 c3 c4 c61 c62 c63 c64 c65 c66 c67 c68 c69
  have HE : Hid (Nib.wayEd e x = e) := by rw [Hid, Nib.wayEd, if_neg (by simp [hnf])]
  have h59 : ¬ (x.way = 59 ∨ x.way = 44) := by
    rintro (h | h) <;> rw [h] at hw <;> revert hw <;> decide
  have HX : Hid (Nib.wayOf e x v = Nib.goWay e.t e.p x.way x.c x.n.toNat x.given v false) := by rw [Hid, Nib.wayOf, if_neg (by simp [hnf]), if_neg h59]
  generalize Nib.wayOf e x v = y at *
  generalize Nib.wayEd e x = e' at *
  have hw1 : (x.way == 59) = false := by simp; omega
  have hw2 : (x.way == 44) = false := by simp; omega
  have HG : Hid (∀ ww, Calls Tryz.prog 109 #[.string e.t, .int .i64 e.p, .agg #[.int .u8 x.way, .int .u8 x.c, .int .i64 x.n, .bool x.given, .bool v, .bool false]] ww fun r w' =>
      r = .returned (.agg #[.int .i64 y.1, .int .i64 y.2.1, .bool y.2.2]) ∧ Below ww.heap.size ww w') := by
    intro ww
    have := go_any e.t e.p x.n.toNat x.way x.c x.given v false ww hs hp (by omega) (by omega) hw
    rw [← HX.out, Int.toNat_of_nonneg (by omega)] at this
    exact this
  clear HX hw h59
  have l1 : b < w.heap.size + 1 := by omega
  have l2 : b < w.heap.size + 1 + 1 := by omega
  have l3 : b < w.heap.size + 1 + 1 + 1 := by omega
  go_enter Tryz.func88, Tryz.ntmps88
  go_wp2_with fail
  refine (in_any Nib.kFind _ _ (by decide)).mono ?_
  rintro e w' ⟨rfl, rfl⟩
  rw [← mem_kFind] at hnf
  go_wp2_with fail
  go_region_held3 (fun ww => ww.cell? ⟨b, 0, none⟩ = some (.string e.t) ∧ ww.cell? ⟨b, 1, none⟩ = some (.int .i64 e.p) ∧ ww.cell? ⟨w.heap.size + 1 + 1, 0, none⟩ = some (.int .u8 x.way) ∧ ww.cell? ⟨w.heap.size + 1 + 1, 1, none⟩ = some (.int .u8 x.c) ∧ ww.cell? ⟨w.heap.size + 1 + 1, 2, none⟩ = some (.int .i64 x.n) ∧ ww.cell? ⟨w.heap.size + 1 + 1, 3, none⟩ = some (.bool x.given) ∧ ww.cell? ⟨w.heap.size + 1 + 1, 4, none⟩ = some (.bool v) ∧ ww.cell? ⟨w.heap.size + 1 + 1, 5, none⟩ = some (.bool false)) ((refine ⟨?_, ?_, ?_, ?_, ?_, ?_, ?_, ?_⟩ <;> go_simp)) ((go_at_call 109; refine (HG.out _).mono ?_; rintro r w3 ⟨rfl, h3⟩; obtain ⟨hc3, hf3⟩ := bcell h3; have hz3 := h3.size; simp at hz3; have h30 := fun o => hc3 (w.heap.size + 1) o (by simp <;> omega); have f30 := fun o => hf3 (w.heap.size + 1) o (by simp <;> omega)))
  go_wp2
  refine bodyPost_ret (v := .agg #[.int .i64 y.1, .int .i64 y.2.1, .bool y.2.2]) (by simp [results, Tryz.results88, go_sem, h30]) rfl ⟨rfl, ?_, ?_⟩
  · rw [HE.out]
    repeat (with_reducible first | exact H | refine e_o ?_ _ | refine EdAt.alloc ?_ _ | refine EdAt.drewN ?_ _ | refine EdAt.drew ?_ | refine EdAt.below ?_ h3)
  · repeat (with_reducible first | exact Upd.refl _ _ | assumption | refine u_s ?_ _ | refine Upd.alloc ?_ _ | refine Upd.drewN ?_ _ | refine Upd.drew ?_ | refine Upd.below ?_ h3)
theorem way_find (b : Nat) (e : Nib.Ed) (x : Nib.Cmd) (v : Bool) (dv uv : Value) (w : World) (h : EdAt w b e dv uv) (hs : e.t.size ≤ 1000) (hp : e.p ≤ e.t.size) (hn1 : 1 ≤ x.n) (hn : x.n ≤ 99)
    (hf : Nib.isFind x.way = true) (hc27 : ¬ x.c = 27) :
    Calls Tryz.prog 88 #[.pointer (some ⟨b, 0, none⟩), .agg #[.bool x.more, .bool x.bad, .int .i64 x.reg, .int .i64 x.n, .bool x.given, .int .u8 x.verb, .bool x.twice, .int .u8 x.object, .bool x.around, .int .u8 x.way, .int .u8 x.other, .int .u8 x.c], .bool v] w fun r w' =>
      r = .returned (.agg #[.int .i64 (Nib.wayOf e x v).1, .int .i64 (Nib.wayOf e x v).2.1, .bool (Nib.wayOf e x v).2.2]) ∧ EdAt w' b (Nib.wayEd e x) dv uv ∧ Upd [b] w w' := by
  have H := h
  obtain ⟨c0, c1, c2, c3, c4, cS, cL, c59, c60, c61, c62, c63, c64, c65, c66, c67, c68, c69, fz, lt⟩ := h
  clear cS cL c2 c3 c4 c61 c62 c63 c64 c65 c66 c67 c68 c69
  have HE : Hid (Nib.wayEd e x = { e with find := x.way, findC := x.c }) := by rw [Hid, Nib.wayEd, if_pos ⟨hf, hc27⟩]
  have HX : Hid (Nib.wayOf e x v = Nib.goWay e.t e.p x.way x.c x.n.toNat x.given v false) := by rw [Hid, Nib.wayOf, if_pos hf, if_neg hc27]
  have hw : Nib.isWay x.way = true := by
    simp only [Nib.isFind, Bool.or_eq_true, beq_iff_eq] at hf
    rcases hf with ((h | h) | h) | h <;> rw [h] <;> decide
  have h59 : ¬ (x.way = 59 ∨ x.way = 44) := by
    rintro (h | h) <;> rw [h] at hw <;> revert hw <;> decide
  generalize Nib.wayOf e x v = y at *
  generalize Nib.wayEd e x = e' at *
  have hw1 : (x.way == 59) = false := by simp; omega
  have hw2 : (x.way == 44) = false := by simp; omega
  have hc' : (x.c == 27) = false := by simp [hc27]
  have HG : Hid (∀ ww, Calls Tryz.prog 109 #[.string e.t, .int .i64 e.p, .agg #[.int .u8 x.way, .int .u8 x.c, .int .i64 x.n, .bool x.given, .bool v, .bool false]] ww fun r w' =>
      r = .returned (.agg #[.int .i64 y.1, .int .i64 y.2.1, .bool y.2.2]) ∧ Below ww.heap.size ww w') := by
    intro ww
    have := go_any e.t e.p x.n.toNat x.way x.c x.given v false ww hs hp (by omega) (by omega) hw
    rw [← HX.out, Int.toNat_of_nonneg (by omega)] at this
    exact this
  clear HX hw h59 hc27
  have l1 : b < w.heap.size + 1 := by omega
  have l2 : b < w.heap.size + 1 + 1 := by omega
  have l3 : b < w.heap.size + 1 + 1 + 1 := by omega
  have HF := (H.set_find x.way).set_findC x.c
  go_enter Tryz.func88, Tryz.ntmps88
  go_wp2_with fail
  refine (in_any Nib.kFind _ _ (by decide)).mono ?_
  rintro e w' ⟨rfl, rfl⟩
  rw [← mem_kFind] at hf
  go_wp2_with fail
  go_region_held3 (fun ww => ww.cell? ⟨b, 0, none⟩ = some (.string e.t) ∧ ww.cell? ⟨b, 1, none⟩ = some (.int .i64 e.p) ∧ ww.cell? ⟨w.heap.size + 1 + 1, 0, none⟩ = some (.int .u8 x.way) ∧ ww.cell? ⟨w.heap.size + 1 + 1, 1, none⟩ = some (.int .u8 x.c) ∧ ww.cell? ⟨w.heap.size + 1 + 1, 2, none⟩ = some (.int .i64 x.n) ∧ ww.cell? ⟨w.heap.size + 1 + 1, 3, none⟩ = some (.bool x.given) ∧ ww.cell? ⟨w.heap.size + 1 + 1, 4, none⟩ = some (.bool v) ∧ ww.cell? ⟨w.heap.size + 1 + 1, 5, none⟩ = some (.bool false)) ((refine ⟨?_, ?_, ?_, ?_, ?_, ?_, ?_, ?_⟩ <;> go_simp)) ((go_at_call 109; refine (HG.out _).mono ?_; rintro r w3 ⟨rfl, h3⟩; obtain ⟨hc3, hf3⟩ := bcell h3; have hz3 := h3.size; simp at hz3; have h30 := fun o => hc3 (w.heap.size + 1) o (by simp <;> omega); have f30 := fun o => hf3 (w.heap.size + 1) o (by simp <;> omega)))
  go_wp2
  refine bodyPost_ret (v := .agg #[.int .i64 y.1, .int .i64 y.2.1, .bool y.2.2]) (by simp [results, Tryz.results88, go_sem, h30]) rfl ⟨rfl, ?_, ?_⟩
  · rw [HE.out]
    repeat (with_reducible first | exact HF | refine e_o ?_ _ | refine EdAt.alloc ?_ _ | refine EdAt.drewN ?_ _ | refine EdAt.drew ?_ | refine EdAt.below ?_ h3)
  · repeat (with_reducible first | exact Upd.refl _ _ | assumption | refine u_s ?_ _ | refine Upd.alloc ?_ _ | refine Upd.drewN ?_ _ | refine Upd.drew ?_ | refine Upd.below ?_ h3)
theorem way_esc (b : Nat) (e : Nib.Ed) (x : Nib.Cmd) (v : Bool) (dv uv : Value) (w : World) (h : EdAt w b e dv uv) (hs : e.t.size ≤ 1000) (hp : e.p ≤ e.t.size) (hn1 : 1 ≤ x.n) (hn : x.n ≤ 99)
    (hf : Nib.isFind x.way = true) (hc27 : x.c = 27) :
    Calls Tryz.prog 88 #[.pointer (some ⟨b, 0, none⟩), .agg #[.bool x.more, .bool x.bad, .int .i64 x.reg, .int .i64 x.n, .bool x.given, .int .u8 x.verb, .bool x.twice, .int .u8 x.object, .bool x.around, .int .u8 x.way, .int .u8 x.other, .int .u8 x.c], .bool v] w fun r w' =>
      r = .returned (.agg #[.int .i64 (Nib.wayOf e x v).1, .int .i64 (Nib.wayOf e x v).2.1, .bool (Nib.wayOf e x v).2.2]) ∧ EdAt w' b (Nib.wayEd e x) dv uv ∧ Upd [b] w w' := by
  have H := h
  obtain ⟨c0, c1, c2, c3, c4, cS, cL, c59, c60, c61, c62, c63, c64, c65, c66, c67, c68, c69, fz, lt⟩ := h
  clear cS cL c2 c3 c4 c61 c62 c63 c64 c65 c66 c67 c68 c69
  have HE : Hid (Nib.wayEd e x = e) := by rw [Hid, Nib.wayEd, if_neg (fun g => g.2 hc27)]
  have HX : Hid (Nib.wayOf e x v = (0, 0, true)) := by rw [Hid, Nib.wayOf, if_pos hf, if_pos hc27]
  generalize Nib.wayOf e x v = y at *
  generalize Nib.wayEd e x = e' at *
  have hc' : (x.c == 27) = true := by simp [hc27]
  clear hc27
  have l1 : b < w.heap.size + 1 := by omega
  have l2 : b < w.heap.size + 1 + 1 := by omega
  have l3 : b < w.heap.size + 1 + 1 + 1 := by omega
  go_enter Tryz.func88, Tryz.ntmps88
  go_wp2_with fail
  refine (in_any Nib.kFind _ _ (by decide)).mono ?_
  rintro e w' ⟨rfl, rfl⟩
  rw [← mem_kFind] at hf
  go_wp2_with fail
  refine (fails_any _).mono ?_
  rintro e w3 ⟨rfl, h3⟩
  obtain ⟨hc3, hf3⟩ := bcell h3
  have hz3 := h3.size
  try simp at hz3
  have h30 := fun o => hc3 (w.heap.size + 1) o (by simp <;> omega)
  go_wp2
  refine bodyPost_ret (v := .agg #[.int .i64 0, .int .i64 0, .bool true]) (by simp [results, Tryz.results88, go_sem, h30]) rfl ⟨by rw [HX.out], ?_, ?_⟩
  · rw [HE.out]
    repeat (with_reducible first | exact H | refine e_o ?_ _ | refine EdAt.alloc ?_ _ | refine EdAt.drewN ?_ _ | refine EdAt.drew ?_ | refine EdAt.below ?_ h3)
  · repeat (with_reducible first | exact Upd.refl _ _ | assumption | refine u_s ?_ _ | refine Upd.alloc ?_ _ | refine Upd.drewN ?_ _ | refine Upd.drew ?_ | refine Upd.below ?_ h3)
theorem way_none (b : Nat) (e : Nib.Ed) (x : Nib.Cmd) (v : Bool) (dv uv : Value) (w : World) (h : EdAt w b e dv uv) (hs : e.t.size ≤ 1000) (hp : e.p ≤ e.t.size) (hn1 : 1 ≤ x.n) (hn : x.n ≤ 99)
    (hw : x.way = 59 ∨ x.way = 44) (hz : e.find = 0) :
    Calls Tryz.prog 88 #[.pointer (some ⟨b, 0, none⟩), .agg #[.bool x.more, .bool x.bad, .int .i64 x.reg, .int .i64 x.n, .bool x.given, .int .u8 x.verb, .bool x.twice, .int .u8 x.object, .bool x.around, .int .u8 x.way, .int .u8 x.other, .int .u8 x.c], .bool v] w fun r w' =>
      r = .returned (.agg #[.int .i64 (Nib.wayOf e x v).1, .int .i64 (Nib.wayOf e x v).2.1, .bool (Nib.wayOf e x v).2.2]) ∧ EdAt w' b (Nib.wayEd e x) dv uv ∧ Upd [b] w w' := by
  have H := h
  obtain ⟨c0, c1, c2, c3, c4, cS, cL, c59, c60, c61, c62, c63, c64, c65, c66, c67, c68, c69, fz, lt⟩ := h
  clear cS cL c2 c3 c4 c61 c62 c63 c64 c65 c66 c67 c68 c69
  have hnf : Nib.isFind x.way = false := by rcases hw with h | h <;> rw [h] <;> decide
  have HE : Hid (Nib.wayEd e x = e) := by rw [Hid, Nib.wayEd, if_neg (by simp [hnf])]
  have HX : Hid (Nib.wayOf e x v = (0, 0, true)) := by rw [Hid, Nib.wayOf, if_neg (by simp [hnf]), if_pos hw, if_pos hz]
  generalize Nib.wayOf e x v = y at *
  generalize Nib.wayEd e x = e' at *
  rw [hz] at c59
  clear hz
  rw [← mem_kFind] at hnf
  have l1 : b < w.heap.size + 1 := by omega
  have l2 : b < w.heap.size + 1 + 1 := by omega
  have l3 : b < w.heap.size + 1 + 1 + 1 := by omega
  rcases hw with hw | hw
  · have hw1 : (x.way == 59) = true := by simp [hw]
    have hw2 : (x.way == 44) = false := by simp [hw]
    clear hw
    go_enter Tryz.func88, Tryz.ntmps88
    go_wp2_with fail
    refine (in_any Nib.kFind _ _ (by decide)).mono ?_
    rintro e w' ⟨rfl, rfl⟩
    go_wp2_with fail
    refine (fails_any _).mono ?_
    rintro e w3 ⟨rfl, h3⟩
    obtain ⟨hc3, hf3⟩ := bcell h3
    have hz3 := h3.size
    try simp at hz3
    have h30 := fun o => hc3 (w.heap.size + 1) o (by simp <;> omega)
    go_wp2
    refine bodyPost_ret (v := .agg #[.int .i64 0, .int .i64 0, .bool true]) (by simp [results, Tryz.results88, go_sem, h30]) rfl ⟨by rw [HX.out], ?_, ?_⟩
    · rw [HE.out]
      repeat (with_reducible first | exact H | refine e_o ?_ _ | refine EdAt.alloc ?_ _ | refine EdAt.drewN ?_ _ | refine EdAt.drew ?_ | refine EdAt.below ?_ h3)
    · repeat (with_reducible first | exact Upd.refl _ _ | assumption | refine u_s ?_ _ | refine Upd.alloc ?_ _ | refine Upd.drewN ?_ _ | refine Upd.drew ?_ | refine Upd.below ?_ h3)
  · have hw1 : (x.way == 59) = false := by simp [hw]
    have hw2 : (x.way == 44) = true := by simp [hw]
    clear hw
    go_enter Tryz.func88, Tryz.ntmps88
    go_wp2_with fail
    refine (in_any Nib.kFind _ _ (by decide)).mono ?_
    rintro e w' ⟨rfl, rfl⟩
    go_wp2_with fail
    refine (fails_any _).mono ?_
    rintro e w3 ⟨rfl, h3⟩
    obtain ⟨hc3, hf3⟩ := bcell h3
    have hz3 := h3.size
    try simp at hz3
    have h30 := fun o => hc3 (w.heap.size + 1) o (by simp <;> omega)
    go_wp2
    refine bodyPost_ret (v := .agg #[.int .i64 0, .int .i64 0, .bool true]) (by simp [results, Tryz.results88, go_sem, h30]) rfl ⟨by rw [HX.out], ?_, ?_⟩
    · rw [HE.out]
      repeat (with_reducible first | exact H | refine e_o ?_ _ | refine EdAt.alloc ?_ _ | refine EdAt.drewN ?_ _ | refine EdAt.drew ?_ | refine EdAt.below ?_ h3)
    · repeat (with_reducible first | exact Upd.refl _ _ | assumption | refine u_s ?_ _ | refine Upd.alloc ?_ _ | refine Upd.drewN ?_ _ | refine Upd.drew ?_ | refine Upd.below ?_ h3)
theorem way_again59 (b : Nat) (e : Nib.Ed) (x : Nib.Cmd) (v : Bool) (dv uv : Value) (w : World) (h : EdAt w b e dv uv) (hs : e.t.size ≤ 1000) (hp : e.p ≤ e.t.size) (hn1 : 1 ≤ x.n) (hn : x.n ≤ 99)
    (hw : x.way = 59) (hf : Nib.isFind e.find = true) :
    Calls Tryz.prog 88 #[.pointer (some ⟨b, 0, none⟩), .agg #[.bool x.more, .bool x.bad, .int .i64 x.reg, .int .i64 x.n, .bool x.given, .int .u8 x.verb, .bool x.twice, .int .u8 x.object, .bool x.around, .int .u8 x.way, .int .u8 x.other, .int .u8 x.c], .bool v] w fun r w' =>
      r = .returned (.agg #[.int .i64 (Nib.wayOf e x v).1, .int .i64 (Nib.wayOf e x v).2.1, .bool (Nib.wayOf e x v).2.2]) ∧ EdAt w' b (Nib.wayEd e x) dv uv ∧ Upd [b] w w' := by
  have H := h
  obtain ⟨c0, c1, c2, c3, c4, cS, cL, c59, c60, c61, c62, c63, c64, c65, c66, c67, c68, c69, fz, lt⟩ := h
  clear cS cL c2 c3 c4 c61 c62 c63 c64 c65 c66 c67 c68 c69
  have hnf : Nib.isFind x.way = false := by rw [hw]; decide
  have HE : Hid (Nib.wayEd e x = e) := by rw [Hid, Nib.wayEd, if_neg (by simp [hnf])]
  have hz : (e.find == 0) = false := by
    simp only [Nib.isFind, Bool.or_eq_true, beq_iff_eq] at hf
    simp; omega
  have hfk : Nib.isWay (e.find) = true := by
    simp only [Nib.isFind, Bool.or_eq_true, beq_iff_eq] at hf
    rcases hf with ((h | h) | h) | h <;> rw [h] <;> decide
  have HX : Hid (Nib.wayOf e x v = Nib.goWay e.t e.p (e.find) e.findC x.n.toNat x.given v true) := by
    rw [Hid, Nib.wayOf, if_neg (by simp [hnf]), if_pos (by omega), if_neg (by simpa using hz)]; simp [hw]
  generalize Nib.wayOf e x v = y at *
  generalize Nib.wayEd e x = e' at *
  have hw1 : (x.way == 59) = true := by simp [hw]
  have hw2 : (x.way == 44) = false := by simp [hw]
  rw [← mem_kFind] at hnf
  have HG : Hid (∀ ww, Calls Tryz.prog 109 #[.string e.t, .int .i64 e.p, .agg #[.int .u8 (e.find), .int .u8 e.findC, .int .i64 x.n, .bool x.given, .bool v, .bool true]] ww fun r w' =>
      r = .returned (.agg #[.int .i64 y.1, .int .i64 y.2.1, .bool y.2.2]) ∧ Below ww.heap.size ww w') := by
    intro ww
    have := go_any e.t e.p x.n.toNat (e.find) e.findC x.given v true ww hs hp (by omega) (by omega) hfk
    rw [← HX.out, Int.toNat_of_nonneg (by omega)] at this
    exact this
  clear HX hfk hw hf
  have l1 : b < w.heap.size + 1 := by omega
  have l2 : b < w.heap.size + 1 + 1 := by omega
  have l3 : b < w.heap.size + 1 + 1 + 1 := by omega
  go_enter Tryz.func88, Tryz.ntmps88
  go_wp2_with fail
  refine (in_any Nib.kFind _ _ (by decide)).mono ?_
  rintro e w' ⟨rfl, rfl⟩
  go_wp2_with fail
  go_region_held3 (fun ww => ww.cell? ⟨b, 0, none⟩ = some (.string e.t) ∧ ww.cell? ⟨b, 1, none⟩ = some (.int .i64 e.p) ∧ ww.cell? ⟨w.heap.size + 1 + 1, 0, none⟩ = some (.int .u8 (e.find)) ∧ ww.cell? ⟨w.heap.size + 1 + 1, 1, none⟩ = some (.int .u8 e.findC) ∧ ww.cell? ⟨w.heap.size + 1 + 1, 2, none⟩ = some (.int .i64 x.n) ∧ ww.cell? ⟨w.heap.size + 1 + 1, 3, none⟩ = some (.bool x.given) ∧ ww.cell? ⟨w.heap.size + 1 + 1, 4, none⟩ = some (.bool v) ∧ ww.cell? ⟨w.heap.size + 1 + 1, 5, none⟩ = some (.bool true)) ((refine ⟨?_, ?_, ?_, ?_, ?_, ?_, ?_, ?_⟩ <;> go_simp)) ((go_at_call 109; refine (HG.out _).mono ?_; rintro r w3 ⟨rfl, h3⟩; obtain ⟨hc3, hf3⟩ := bcell h3; have hz3 := h3.size; simp at hz3; have h30 := fun o => hc3 (w.heap.size + 1) o (by simp <;> omega); have f30 := fun o => hf3 (w.heap.size + 1) o (by simp <;> omega)))
  go_wp2
  refine bodyPost_ret (v := .agg #[.int .i64 y.1, .int .i64 y.2.1, .bool y.2.2]) (by simp [results, Tryz.results88, go_sem, h30]) rfl ⟨rfl, ?_, ?_⟩
  · rw [HE.out]
    repeat (with_reducible first | exact H | refine e_o ?_ _ | refine EdAt.alloc ?_ _ | refine EdAt.drewN ?_ _ | refine EdAt.drew ?_ | refine EdAt.below ?_ h3)
  · repeat (with_reducible first | exact Upd.refl _ _ | assumption | refine u_s ?_ _ | refine Upd.alloc ?_ _ | refine Upd.drewN ?_ _ | refine Upd.drew ?_ | refine Upd.below ?_ h3)
end Go.Proofs.YtlendfhehhacpaaGreat
