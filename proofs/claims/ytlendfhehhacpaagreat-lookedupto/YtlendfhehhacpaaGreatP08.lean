/- Joined of the texts WaysA, MemF, ModesE, ModesF. -/
import Derived.Test.YtlendfhehhacpaaGreatP07
import Derived.Test.YtlendfhehhacpaaGreatP05
import Derived.Test.YtlendfhehhacpaaGreatP06
set_option linter.unusedVariables false
set_option linter.unusedSimpArgs false
set_option maxRecDepth 100000
set_option maxHeartbeats 8000000
namespace Go.Proofs.YtlendfhehhacpaaGreat
open Go.RowKit
theorem tEnd_any (s : ByteArray) (w : World) :
    Calls Tryz.prog 246 #[.string s] w fun e w' => e = .returned (.int .i64 s.size) ∧ w' = w := by
  go_enter Tryz.func246, Tryz.ntmps246
  go_wp2
  go_ret
  exact ⟨rfl, rfl⟩
theorem sNumber_any (s : ByteArray) (p n : Int) (v c : Bool) (w : World) :
    Calls Tryz.prog 241 #[.agg #[.string s, .int .i64 (p), .int .i64 (n), .bool v, .bool c]] w fun e w' => e = .returned (.int .i64 (max n 1)) ∧ Below w.heap.size w w' := by
  go_enter Tryz.func241, Tryz.ntmps241
  go_wp2
  all_goals
    first
      | (refine bodyPost_ret (v := .int .i64 n) (by simp [results, Tryz.results241, go_sem]) rfl ⟨ret_int (by omega), ?_⟩ <;> repeat (with_reducible first | exact Below.refl _ _ | refine b_s ?_ _ | refine b_a ?_ _ | refine Below.drew ?_ | refine below_drewN ?_ _))
      | (refine bodyPost_ret (v := .int .i64 1) (by simp [results, Tryz.results241, go_sem]) rfl ⟨ret_int (by omega), ?_⟩ <;> repeat (with_reducible first | exact Below.refl _ _ | refine b_s ?_ _ | refine b_a ?_ _ | refine Below.drew ?_ | refine below_drewN ?_ _))
theorem sLine_any (s : ByteArray) (p n : Int) (v c : Bool) (k : Nat) (w : World) (hs : s.size ≤ 1000) (e : p = k) (hk : k ≤ s.size) :
    Calls Tryz.prog 239 #[.agg #[.string s, .int .i64 (p), .int .i64 (n), .bool v, .bool c]] w fun e w' => e = .returned (.agg #[.int .i64 (Nib.beg s k), .int .i64 (Nib.fin s k)]) ∧ Below w.heap.size w w' := by
  subst e
  have HL : Hid (∀ ww, Calls Tryz.prog 195 #[.string s, .int .i64 k] ww fun e w' => e = .returned (.agg #[.int .i64 (Nib.beg s k), .int .i64 (Nib.fin s k)]) ∧ Below ww.heap.size ww w') := fun ww => tLine_any s k k ww hs rfl hk
  generalize Nib.beg s k = B at *
  generalize Nib.fin s k = F at *
  go_enter Tryz.func239, Tryz.ntmps239
  go_wp2_with fail
  refine (HL.out _).mono ?_
  rintro e w1 ⟨rfl, h1⟩
  obtain ⟨hc1, hf1⟩ := bcell h1
  have hz1 := h1.size
  try simp at hz1
  go_wp2
  refine bodyPost_ret (v := .agg #[.int .i64 (B), .int .i64 (F)]) (by simp [results, Tryz.results239, go_sem, hc1]) rfl ⟨rfl, ?_⟩
  repeat (with_reducible first | exact Below.refl _ _ | refine b_s ?_ _ | refine b_a ?_ _ | refine Below.drew ?_ | refine below_drewN ?_ _ | refine b_t ?_ h1)
def wayX (r : Int × Int × Bool) : Int := if r.2.2 = true then 0 else r.1
def wayK (r : Int × Int × Bool) : Int := if r.2.2 = true then 0 else r.2.1
def wayZ (r : Int × Int × Bool) : Bool := !r.2.2
theorem wayX_t (a b : Int) : wayX (a, b, true) = 0 := rfl
theorem wayK_t (a b : Int) : wayK (a, b, true) = 0 := rfl
theorem wayZ_t (a b : Int) : wayZ (a, b, true) = false := rfl
theorem wayX_f (a b : Int) : wayX (a, b, false) = a := rfl
theorem wayK_f (a b : Int) : wayK (a, b, false) = b := rfl
theorem wayZ_f (a b : Int) : wayZ (a, b, false) = true := rfl
def wayEq (r t : Int × Int × Bool) : Prop := r.2.2 = t.2.2 ∧ (r.2.2 = false → r.1 = t.1 ∧ r.2.1 = t.2.1)
theorem wayEq.all {r t : Int × Int × Bool} (h : wayEq r t) : wayX r = wayX t ∧ wayK r = wayK t ∧ wayZ r = wayZ t := by
  obtain ⟨a, b, c⟩ := r
  obtain ⟨a', b', c'⟩ := t
  obtain ⟨h1, h2⟩ := h
  simp only at h1 h2
  subst h1
  cases c with
  | true => exact ⟨rfl, rfl, rfl⟩
  | false => obtain ⟨rfl, rfl⟩ := h2 rfl; exact ⟨rfl, rfl, rfl⟩
theorem sUnless_any (s : ByteArray) (p n q kind : Int) (v c : Bool) (w : World) :
    Calls Tryz.prog 240 #[.agg #[.string s, .int .i64 (p), .int .i64 (n), .bool v, .bool c], .int .i64 q, .int .i64 kind] w fun e w' => e = .returned (.tuple #[.agg #[.int .i64 (wayX ((q, kind, q == p))), .int .i64 (wayK ((q, kind, q == p)))], .bool (wayZ ((q, kind, q == p)))]) ∧ Below w.heap.size w w' := by
  by_cases h : q = p
  · subst h
    simp only [beq_self_eq_true, wayX_t, wayK_t, wayZ_t]
    go_enter Tryz.func240, Tryz.ntmps240
    go_wp2
    refine bodyPost_ret (v := .tuple #[.agg #[.int .i64 0, .int .i64 0], .bool false]) (by simp [results, Tryz.results240, go_sem]) rfl ⟨rfl, ?_⟩
    repeat (with_reducible first | exact Below.refl _ _ | refine b_s ?_ _ | refine b_a ?_ _ | refine Below.drew ?_ | refine below_drewN ?_ _)
  · have hb : (q == p) = false := by simp [h]
    rw [hb, wayX_f, wayK_f, wayZ_f]
    go_enter Tryz.func240, Tryz.ntmps240
    go_wp2
    refine bodyPost_ret (v := .tuple #[.agg #[.int .i64 q, .int .i64 kind], .bool true]) (by simp [results, Tryz.results240, go_sem]) rfl ⟨rfl, ?_⟩
    repeat (with_reducible first | exact Below.refl _ _ | refine b_s ?_ _ | refine b_a ?_ _ | refine Below.drew ?_ | refine below_drewN ?_ _)
theorem sUnless_way {r : Int × Int × Bool} (s : ByteArray) (p n q kind : Int) (v c : Bool) (w : World) (h : wayEq (q, kind, q == p) r) :
    Calls Tryz.prog 240 #[.agg #[.string s, .int .i64 (p), .int .i64 (n), .bool v, .bool c], .int .i64 q, .int .i64 kind] w fun e w' => e = .returned (.tuple #[.agg #[.int .i64 (wayX (r)), .int .i64 (wayK (r))], .bool (wayZ (r))]) ∧ Below w.heap.size w w' := by
  have := sUnless_any s p n q kind v c w
  rwa [h.all.1, h.all.2.1, h.all.2.2] at this
theorem sHasInk_any (s : ByteArray) (p : Int) (k : Nat) (w : World) (hs : s.size ≤ 1000) (e : p = k) (hk : k ≤ s.size) :
    Calls Tryz.prog 247 #[.string s, .int .i64 p] w fun e w' => e = .returned (.bool (decide (k < s.size) && !Nib.spc (Nib.bt s k))) ∧ w' = w := by
  subst e
  by_cases h : k < s.size
  · have HC : Hid ((decide (k < s.size) && !Nib.spc (Nib.bt s k)) = decide (2 ≤ Nib.cls (Nib.bt s k) false)) := by
      rw [Hid]; simp only [h, decide_true, Bool.true_and]
      cases hq : Nib.spc (Nib.bt s k) with
      | true => have := Nib.cls_spc (g := false) hq; simp; omega
      | false => have := Nib.cls_nsp (g := false) hq; simp; omega
    have hlo := Nib.cls_lo (Nib.bt s k) false
    have hhi := Nib.cls_hi (Nib.bt s k) false
    rw [HC.out]
    clear HC
    rw [Nib.bt_in h] at *
    have hne : ((k : Int) == (s.size : Int)) = false := by simp; omega
    have HT : Hid (∀ ww, Calls Tryz.prog 225 #[.int .u8 (((s[k]'h).toNat : Nat) : Int), .bool false] ww fun e w' => e = .returned (.int .i64 (Nib.cls (((s[k]'h).toNat : Nat) : Int) false)) ∧ w' = ww) := fun ww => tClass_any _ false ww
    generalize Nib.cls (((s[k]'h).toNat : Nat) : Int) false = C at *
    go_enter Tryz.func247, Tryz.ntmps247
    go_wp2_with fail
    refine (tEnd_any s _).mono ?_
    rintro e w' ⟨rfl, rfl⟩
    go_wp2_with fail
    refine (HT.out _).mono ?_
    rintro e w' ⟨rfl, rfl⟩
    go_wp2
    all_goals
      go_ret
      exact ⟨ret_bool (by rw [Bool.eq_iff_iff]; simp; omega), rfl⟩
  · have e : k = s.size := by omega
    subst e
    simp only [Nat.lt_irrefl, decide_false, Bool.false_and]
    go_enter Tryz.func247, Tryz.ntmps247
    go_wp2
    go_ret
    exact ⟨rfl, rfl⟩
theorem Upd.cell {S : List Nat} {w w' : World} (h : Upd S w w') {b o : Nat} (hn : b ∉ S) (hl : b < w.heap.size) : w'.cell? ⟨b, o, none⟩ = w.cell? ⟨b, o, none⟩ := World.cell?_of_block (w := w) (h.block b hl hn)
theorem Upd.frozen {S : List Nat} {w w' : World} (h : Upd S w w') {b o : Nat} (hn : b ∉ S) (hl : b < w.heap.size) : w'.frozen? ⟨b, o, none⟩ = w.frozen? ⟨b, o, none⟩ := World.frozen?_of_block (w := w) (h.block b hl hn)
theorem Upd.was {S : List Nat} {w w' : World} (h : Upd S w w') {b o : Nat} {v : Value} (hc : w.cell? ⟨b, o, none⟩ = some v) (hn : b ∉ S) : w'.cell? ⟨b, o, none⟩ = some v :=
  (h.cell hn (World.block_lt_of_cell? w ⟨b, o, none⟩ hc)).trans hc
theorem Upd.lt {S : List Nat} {w w' : World} (h : Upd S w w') {b : Nat} (hl : b < w.heap.size) : b < w'.heap.size := Nat.lt_of_lt_of_le hl h.size
theorem mStart (r d : Nat) (p : Pg) (w : World) (h : RdAt w r d p) (hn : p.n ≤ 99) (hb : p.behind ≤ 99) :
    Calls Tryz.prog 168 #[.pointer (some ⟨r, 0, none⟩)] w fun e w' => e = .returned (.agg #[.string p.t, .int .i64 (p.pl), .int .i64 (cnt p), .bool (p.verb != 0), .bool (p.verb == 99)]) ∧ Below w.heap.size w w' := by
  have HC : Hid (∀ ww, RdAt ww r d p → Calls Tryz.prog 200 #[.pointer (some ⟨r, 1, none⟩)] ww fun e w' => e = .returned (.int .i64 (cnt p)) ∧ Below ww.heap.size ww w') := fun ww hh => mCount r d p ww hh hn hb
  generalize cnt p = N at *
  have H := h
  obtain ⟨c0, c1, c2, c3, c4, c5, c6, c7, c8, c9, fz, lt⟩ := h.dk
  obtain ⟨b0, b1, b2, b3, b4, b5, bz, bl⟩ := h.bg
  clear c2 c3 c4 c5 c6 c7 c8 c9 b1 b2 b4 b5
  have l1 : d < w.heap.size + 1 := by omega
  have l2 : r < w.heap.size + 1 := by omega
  have n1 : ¬ w.heap.size = d := by omega
  have n2 : ¬ d = w.heap.size := by omega
  have n3 : ¬ w.heap.size = r := by omega
  have n4 : ¬ r = w.heap.size := by omega
  go_enter Tryz.func168, Tryz.ntmps168
  go_wp2_with fail
  go_region_held3 (fun ww => ww.cell? ⟨d, 0, none⟩ = some (.string p.t) ∧ ww.cell? ⟨d, 1, none⟩ = some (.int .i64 (p.pl : Nat)) ∧ ww.cell? ⟨r, 0, none⟩ = some (.pointer (some ⟨d, 0, none⟩)) ∧ ww.cell? ⟨r, 3, none⟩ = some (.int .u8 p.verb)) ((refine ⟨?_, ?_, ?_, ?_⟩ <;> (first | (go_simp; done) | ((repeat (first | with_reducible assumption | (with_reducible refine memLater ((Below.refl _ _).alloc (Nat.le_refl _) _) ?_) | (with_reducible refine memLater ((Below.refl _ _).drew) ?_) | (with_reducible refine memLater h1 ?_) | (with_reducible refine (memSet (by omega)).trans ?_) | (go_simp; done))); done)))) ((go_at_call 200; refine Calls.mono (HC.out _ (by (repeat (with_reducible first | exact H | refine RdAt.alloc ?_ _ | refine RdAt.drewN ?_ _ | refine RdAt.drew ?_ | refine r_o ?_ _)))) ?_; rintro r1 w1 ⟨rfl, h1⟩; have hz1 := h1.size; (try simp at hz1); (try have hl1_0 : d < w1.heap.size := (by omega)); (try have hk1_0 : d < w1.heap.size + 1 := (by omega)); (try have hl1_1 : r < w1.heap.size := (by omega)); (try have hk1_1 : r < w1.heap.size + 1 := (by omega)); obtain ⟨hc1, hf1⟩ := bcell h1; have hn1_0 := (hc1 (w.heap.size) 0 (by first | omega | (simp <;> omega))).trans (show _ = some (.string ⟨#[]⟩) by simp); have hn1_1 := (hc1 (w.heap.size) 1 (by first | omega | (simp <;> omega))).trans (show _ = some (.int .i64 0) by simp); have hn1_2 := (hc1 (w.heap.size) 2 (by first | omega | (simp <;> omega))).trans (show _ = some (.int .i64 0) by simp); have hn1_3 := (hc1 (w.heap.size) 3 (by first | omega | (simp <;> omega))).trans (show _ = some (.bool false) by simp); have hn1_4 := (hc1 (w.heap.size) 4 (by first | omega | (simp <;> omega))).trans (show _ = some (.bool false) by simp); have hq1 := fun o => (hf1 (w.heap.size) o (by first | omega | (simp <;> omega))).trans (show _ = false by simp); have hg1 : w.heap.size < w1.heap.size := (by omega); clear hc1 hf1))
  go_wp2
  refine bodyPost_ret (v := .agg #[.string p.t, .int .i64 (p.pl), .int .i64 (N), .bool (p.verb != 0), .bool (p.verb == 99)]) (by simp [results, Tryz.results168, go_sem, hn1_0, hn1_1, hn1_2, hn1_3, hn1_4]) rfl ⟨rfl, ?_⟩
  repeat (with_reducible first | exact Below.refl _ _ | refine b_s ?_ _ | refine b_a ?_ _ | refine Below.drew ?_ | refine below_drewN ?_ _ | refine b_t ?_ h1)
def arrEd (p : Pg) (r : Int × Int × Bool) : Pg := if r.2.2 = true then p else { p with pl := Nib.clm p.t r.1.toNat }
theorem mArrive (r d : Nat) (p : Pg) (R : Int × Int × Bool) (w : World) (h : RdAt w r d p) (hs : p.t.size ≤ 1000) (hv : p.verb = 0) (hR : R.2.2 = false → 0 ≤ R.1 ∧ R.1 ≤ p.t.size) :
    Calls Tryz.prog 166 #[.pointer (some ⟨r, 0, none⟩), .agg #[.int .i64 (wayX R), .int .i64 (wayK R)], .bool (wayZ R)] w fun e w' =>
      e = .returned (.int .i64 (if R.2.2 = true then 4 else 1)) ∧ RdAt w' r d (arrEd p R) ∧ Upd [d] w w' := by
  have H := h
  obtain ⟨b0, b1, b2, b3, b4, b5, bz, bl⟩ := h.bg
  rw [hv] at b3
  have dl := h.dk.lt
  have l1 : d < w.heap.size + 1 := by omega
  have l2 : r < w.heap.size + 1 := by omega
  cases hz : R.2.2 with
  | true =>
    have e1 : wayX R = 0 := by simp [wayX, hz]
    have e2 : wayK R = 0 := by simp [wayK, hz]
    have e3 : wayZ R = false := by simp [wayZ, hz]
    have HE : Hid (arrEd p R = p) := by rw [Hid, arrEd, if_pos hz]
    rw [e1, e2, e3]
    generalize arrEd p R = p2 at *
    clear h hv hR hz e1 e2 e3
    simp only [if_true]
    go_enter Tryz.func166, Tryz.ntmps166
    go_wp2
    go_ret
    refine ⟨rfl, ?_, ?_⟩
    · rw [HE.out]
      repeat (with_reducible first | exact H | refine r_o ?_ _ | refine RdAt.alloc ?_ _ | refine RdAt.drewN ?_ _ | refine RdAt.drew ?_)
    · repeat (with_reducible first | exact Upd.refl _ _ | assumption | refine u_s ?_ _ | refine Upd.alloc ?_ _ | refine Upd.drewN ?_ _ | refine Upd.drew ?_)
  | false =>
    obtain ⟨hq0, hq1⟩ := hR hz
    obtain ⟨q, hq⟩ := Int.eq_ofNat_of_zero_le hq0
    have e1 : wayX R = q := by simp [wayX, hz, hq]
    have e3 : wayZ R = true := by simp [wayZ, hz]
    have HM : Hid (∀ ww, RdAt ww r d p → Calls Tryz.prog 179 #[.pointer (some ⟨d, 0, none⟩), .int .i64 q] ww fun e w' => e = .returned (.tuple #[]) ∧ RdAt w' r d (arrEd p R) ∧ Upd [d] ww w') := by
      intro ww hh
      have := mMoveTo r d p q q ww hh hs rfl (by omega)
      rw [arrEd, if_neg (by simp [hz]), hq]
      exact this
    rw [e1, e3]
    generalize wayK R = K at *
    generalize arrEd p R = p2 at *
    clear h hv hR hz e1 e3 hq hq0 hq1
    simp only [Bool.false_eq_true, if_false]
    go_enter Tryz.func166, Tryz.ntmps166
    go_wp2_with fail
    go_region_held3 (fun ww => ww.cell? ⟨r, 0, none⟩ = some (.pointer (some ⟨d, 0, none⟩)) ∧ ww.cell? ⟨w.heap.size, 0, none⟩ = some (.int .i64 q)) ((refine ⟨?_, ?_⟩ <;> go_simp)) ((go_at_call 179; refine Calls.mono (HM.out _ (by (repeat (with_reducible first | exact H | refine RdAt.alloc ?_ _ | refine RdAt.drewN ?_ _ | refine RdAt.drew ?_ | refine r_o ?_ _)))) ?_; rintro e w1 ⟨rfl, h1, hu1⟩; have g0 := h1.bg.c0; have g1 := (hu1.cell (b := w.heap.size) (o := 0) (by simp; omega) (by simp)).trans (show _ = some (.int .i64 (q : Int)) by simp)))
    go_wp2
    go_ret
    refine ⟨rfl, ?_, ?_⟩
    · repeat (with_reducible first | exact h1 | refine r_o ?_ _ | refine RdAt.alloc ?_ _ | refine RdAt.drewN ?_ _ | refine RdAt.drew ?_)
    · repeat (with_reducible first | exact Upd.refl _ _ | refine u_s ?_ _ | refine Upd.alloc ?_ _ | refine Upd.drewN ?_ _ | refine Upd.drew ?_ | refine Upd.trans ?_ (Upd.mono hu1 (by simp)))
theorem mEscape (r d : Nat) (p : Pg) (w : World) (h : RdAt w r d p) :
    Calls Tryz.prog 135 #[.pointer (some ⟨r, 0, none⟩)] w fun e w' => e = .returned (.int .i64 1) ∧ RdAt w' r d { p.none' with mode := 0, anchor := 0 } ∧ Upd [r, d] w w' := by
  have H := h
  have HN : Hid (∀ ww, RdAt ww r d p.none' → Calls Tryz.prog 136 #[.pointer (some ⟨d, 0, none⟩)] ww fun e w' => e = .returned (.tuple #[]) ∧ RdAt w' r d { p.none' with mode := 0, anchor := 0 } ∧ Upd [d] ww w') := fun ww hh => mToNormal r d p.none' ww hh
  have HF : Hid (∀ ww, RdAt ww r d p → Calls Tryz.prog 65 #[.pointer (some ⟨r, 1, none⟩)] ww fun e w' => e = .returned (.tuple #[]) ∧ RdAt w' r d p.none' ∧ Upd [r] ww w') := fun ww hh => mForget r d p ww hh
  generalize p.none' = p1 at *
  generalize hp2 : ({ p1 with mode := 0, anchor := 0 } : Pg) = p2 at *
  clear hp2
  obtain ⟨b0, b1, b2, b3, b4, b5, bz, bl⟩ := h.bg
  clear h
  go_enter Tryz.func135, Tryz.ntmps135
  go_wp2_with fail
  refine Calls.mono (HF.out _ (by (repeat (with_reducible first | exact H | refine RdAt.alloc ?_ _ | refine RdAt.drewN ?_ _ | refine RdAt.drew ?_ | refine r_o ?_ _)))) ?_
  rintro e w1 ⟨rfl, h1, u1⟩
  have g0 := h1.bg.c0
  go_wp2_with fail
  refine Calls.mono (HN.out _ (by (repeat (with_reducible first | exact h1 | refine RdAt.alloc ?_ _ | refine RdAt.drewN ?_ _ | refine RdAt.drew ?_ | refine r_o ?_ _)))) ?_
  rintro e w2 ⟨rfl, h2, u2⟩
  go_wp2
  go_ret
  refine ⟨rfl, ?_, ?_⟩
  · repeat (with_reducible first | exact h2 | refine r_o ?_ _ | refine RdAt.alloc ?_ _ | refine RdAt.drewN ?_ _ | refine RdAt.drew ?_)
  · repeat (with_reducible first | exact Upd.refl _ _ | refine u_s ?_ _ | refine Upd.alloc ?_ _ | refine Upd.drewN ?_ _ | refine Upd.drew ?_ | refine Upd.trans ?_ (Upd.mono u2 (by simp)) | refine Upd.trans ?_ (Upd.mono u1 (by simp)))
theorem mWay_part (r d : Nat) (p : Pg) (key : Int) (w : World) (h : RdAt w r d p) (hk : Nib.isFind key = true ∨ key = 103) :
    Calls Tryz.prog 148 #[.pointer (some ⟨r, 0, none⟩), .int .u8 key] w fun e w' => e = .returned (.int .i64 0) ∧ RdAt w' r d { p with part := key } ∧ Upd [r] w w' := by
  have H := h
  have HN : Hid (∀ ww, RdAt ww r d p → Calls Tryz.prog 142 #[.pointer (some ⟨r, 1, none⟩), .int .u8 key] ww fun e w' => e = .returned (.int .i64 0) ∧ RdAt w' r d { p with part := key } ∧ Upd [r] ww w') := fun ww hh => mAwait r d p key ww hh
  generalize hp2 : ({ p with part := key } : Pg) = p2 at *
  clear hp2
  obtain ⟨b0, b1, b2, b3, b4, b5, bz, bl⟩ := h.bg
  clear h
  simp only [Nib.isFind, Bool.or_eq_true, beq_iff_eq] at hk
  rcases hk with (((hk | hk) | hk) | hk) | hk
  all_goals
    subst hk
    go_enter Tryz.func148, Tryz.ntmps148
    go_wp2_with fail
    refine Calls.mono (HN.out _ (by (repeat (with_reducible first | exact H | refine RdAt.alloc ?_ _ | refine RdAt.drewN ?_ _ | refine RdAt.drew ?_ | refine r_o ?_ _)))) ?_
    rintro e w1 ⟨rfl, h1, u1⟩
    go_wp2
    go_ret
    refine ⟨rfl, ?_, ?_⟩
    · repeat (with_reducible first | exact h1 | refine r_o ?_ _ | refine RdAt.alloc ?_ _ | refine RdAt.drewN ?_ _ | refine RdAt.drew ?_)
    · repeat (with_reducible first | exact Upd.refl _ _ | refine u_s ?_ _ | refine Upd.alloc ?_ _ | refine Upd.drewN ?_ _ | refine Upd.drew ?_ | refine Upd.trans ?_ (Upd.mono u1 (by simp)))
theorem mWay_go (r d : Nat) (p : Pg) (key : Int) (R : Int × Int × Bool) (w : World) (h : RdAt w r d p) (hn : p.n ≤ 99) (hb : p.behind ≤ 99) (hs : p.t.size ≤ 1000) (hv : p.verb = 0)
    (hR : R.2.2 = false → 0 ≤ R.1 ∧ R.1 ≤ p.t.size) (hk1 : Nib.isFind key = false) (hk2 : ¬ key = 103) (hk3 : ¬ key = 59) (hk4 : ¬ key = 44)
    (HG : Hid (∀ ww, Calls Tryz.prog 169 #[.int .u8 key, .agg #[.string p.t, .int .i64 (p.pl), .int .i64 (cnt p), .bool false, .bool false]] ww fun e w' => e = .returned (.tuple #[.agg #[.int .i64 (wayX (R)), .int .i64 (wayK (R))], .bool (wayZ (R))]) ∧ Below ww.heap.size ww w')) :
    Calls Tryz.prog 148 #[.pointer (some ⟨r, 0, none⟩), .int .u8 key] w fun e w' =>
      e = .returned (.int .i64 (if R.2.2 = true then 4 else 1)) ∧ RdAt w' r d (arrEd p R) ∧ Upd [d] w w' := by
  have H := h
  have HS : Hid (∀ ww, RdAt ww r d p → Calls Tryz.prog 168 #[.pointer (some ⟨r, 0, none⟩)] ww fun e w' => e = .returned (.agg #[.string p.t, .int .i64 (p.pl), .int .i64 (cnt p), .bool false, .bool false]) ∧ Below ww.heap.size ww w') := by
    intro ww hh
    have := mStart r d p ww hh hn hb
    rw [hv] at this
    exact this
  have HA : Hid (∀ ww, RdAt ww r d p → Calls Tryz.prog 166 #[.pointer (some ⟨r, 0, none⟩), .agg #[.int .i64 (wayX R), .int .i64 (wayK R)], .bool (wayZ R)] ww fun e w' =>
      e = .returned (.int .i64 (if R.2.2 = true then 4 else 1)) ∧ RdAt w' r d (arrEd p R) ∧ Upd [d] ww w') := fun ww hh => mArrive r d p R ww hh hs hv hR
  generalize (if R.2.2 = true then (4 : Int) else 1) = O at *
  generalize arrEd p R = p2 at *
  generalize wayX R = X at *
  generalize wayK R = K at *
  generalize wayZ R = Z at *
  simp only [Nib.isFind, Bool.or_eq_false_iff, beq_eq_false_iff_ne] at hk1
  obtain ⟨⟨⟨k1, k2⟩, k3⟩, k4⟩ := hk1
  have k1' : (key == 102) = false := by simp [k1]
  have k2' : (key == 116) = false := by simp [k2]
  have k3' : (key == 70) = false := by simp [k3]
  have k4' : (key == 84) = false := by simp [k4]
  have k5' : (key == 103) = false := by simp [hk2]
  have k6' : (key == 59) = false := by simp [hk3]
  have k7' : (key == 44) = false := by simp [hk4]
  clear k1 k2 k3 k4 hk2 hk3 hk4 hv hR h
  go_enter Tryz.func148, Tryz.ntmps148
  go_wp2_with fail
  refine Calls.mono (HS.out _ (by (repeat (with_reducible first | exact H | refine RdAt.alloc ?_ _ | refine RdAt.drewN ?_ _ | refine RdAt.drew ?_ | refine r_o ?_ _)))) ?_
  rintro e w1 ⟨rfl, h1⟩
  go_wp2_with fail
  refine Calls.mono (HG.out _) ?_
  rintro e w2 ⟨rfl, h2⟩
  go_wp2_with fail
  refine Calls.mono (HA.out _ (by (repeat (with_reducible first | exact H | refine RdAt.alloc ?_ _ | refine RdAt.drewN ?_ _ | refine RdAt.drew ?_ | refine RdAt.below ?_ h2 | refine RdAt.below ?_ h1 | refine r_o ?_ _)))) ?_
  rintro e w3 ⟨rfl, h3, u3⟩
  go_wp2
  go_ret
  refine ⟨rfl, ?_, ?_⟩
  · repeat (with_reducible first | exact h3 | refine r_o ?_ _ | refine RdAt.alloc ?_ _ | refine RdAt.drewN ?_ _ | refine RdAt.drew ?_)
  · repeat (with_reducible first | exact Upd.refl _ _ | refine u_s ?_ _ | refine Upd.alloc ?_ _ | refine Upd.drewN ?_ _ | refine Upd.drew ?_ | refine Upd.trans ?_ (Upd.mono u3 (by simp)) | refine Upd.below ?_ h2 | refine Upd.below ?_ h1)
end Go.Proofs.YtlendfhehhacpaaGreat
