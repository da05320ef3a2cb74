/- A part. -/
import Derived.Test.YtlendfhehhacpaaGreatT16
set_option linter.unusedVariables false
set_option linter.unusedSimpArgs false
set_option maxRecDepth 100000
set_option maxHeartbeats 8000000
namespace Go.Proofs.YtlendfhehhacpaaGreat
open Go.RowKit Nib Tryz
theorem hOf (t : ByteArray) (w : World) :
  qC 40 #[.string t] w (.agg #[.string t, .slice none 0 0, .slice none 0 0]) := by
 go_enter func40, ntmps40
 go_wp2
 exact qV (.agg #[.string t, .slice none 0 0, .slice none 0 0]) (by simp [results, results40, go_sem]) rfl
def newPg (t : ByteArray) (m : Nat) : Pg := ⟨t, 0, 0, 0, .map (some m), t, .slice none 0 0, .slice none 0 0, 0, 0, 0, 0, 0, 0, 0⟩
theorem bNew (t : ByteArray) (w : World) :
  Calls Tryz.prog 33 #[.string t] w fun e w' => ∃ b r d m : Nat, e = .returned (.pointer (some ⟨b, 0, none⟩)) ∧ NbAt w' b r d (newPg t m) (.slice none 0 0) 0 ⟨#[]⟩ ∧ w'.heap[m]? = some (.map #[] 0) ∧
   w.heap.size ≤ m ∧ w.heap.size ≤ b ∧ w.heap.size ≤ r ∧ w.heap.size ≤ d ∧ m ≠ b ∧ m ≠ r ∧ m ≠ d ∧ Below w.heap.size w w' := by
 have HO : qH 40 #[.string t] (.agg #[.string t, .slice none 0 0, .slice none 0 0]) := fun ww => hOf t ww
 have hmm := @run_makeMap Tryz.prog
 go_enter func33, ntmps33
 go_wp2_with fail
 refine Calls.mono (HO.out _) ?_
 rintro e w1 ⟨rfl, h1⟩
 have hz1 := h1.size
 simp at hz1
 have hmp : w1.heap[w.heap.size]? = some (.map #[] 0) := by
  rw [h1.block w.heap.size qi]
  exact heap_alloc_new w _
 go_wp2_with fail
 go_ret
 refine ⟨w1.heap.size + 1 + 1, w1.heap.size + 1, w1.heap.size, w.heap.size, rfl, ⟨?_, ⟨?_, ?_, by omega⟩, ⟨_, World.ownsRow_nil _ _ _ _⟩, by omega, by omega, by simp [Value.ownBlock], by simp [Value.ownBlock], by simp [Value.ownBlock]⟩, ?_, by omega, by omega, by omega, by omega, by omega, by omega, by omega, ?_⟩
 ·constructor <;> first | (intro o; simp; done) | (simp [go_sem]; done) | (simp [go_sem]; rfl) | (simp; omega) | rfl
 ·constructor <;> first | (intro o; simp [newPg]; done) | (simp [go_sem, newPg]; done) | (simp [go_sem, newPg]; rfl) | (simp; omega) | rfl
 ·constructor <;> first | (intro o; simp [newPg]; done) | (simp [go_sem, newPg]; done) | (simp [go_sem, newPg]; rfl) | (simp; omega) | rfl
 ·rw [Below.heap_alloc _ _ _ qs, Below.heap_alloc _ _ _ qs, Below.heap_alloc _ _ _ qo]
  exact hmp
 ·repeat exact qB
theorem mMarked_lines (r d : Nat) (p : Pg) (w : World) (h : RdAt w r d p) (hs : p.t.size ≤ 1000) (hl : p.pl ≤ p.t.size) (ha : p.anchor ≤ p.t.size) (hm : p.mode = 3) :
  qC 313 #[.agg #[.pointer (some ⟨r, 0, none⟩)]] w (.agg #[.int .i64 (min (beg p.t p.anchor) (beg p.t p.pl)), .int .i64 (max (fin p.t p.anchor) (fin p.t p.pl)), .bool true]) := by
 have HLs : qH 182 #[.string p.t, .int .i64 (p.anchor : Nat), .int .i64 (p.pl : Nat)] (.agg #[.int .i64 (min (beg p.t p.anchor) (beg p.t p.pl)), .int .i64 (max (fin p.t p.anchor) (fin p.t p.pl)), .bool true]) := fun ww => tLines_any p.t _ _ p.anchor p.pl ww hs rfl rfl ha hl
 generalize min (beg p.t p.anchor : Int) (beg p.t p.pl) = U at *
 generalize max (fin p.t p.anchor : Int) (fin p.t p.pl) = V at *
 have H := h
 have r0 := h.bg.c0
 have d0 := h.dk.c0
 have d1 := h.dk.c1
 have d2 := h.dk.c2
 have d3 := h.dk.c3
 rw [hm] at d3
 have hld := h.dk.lt
 have hlr := h.bg.lt
 clear h hm
 have l1 : r < w.heap.size + 1 := by omega
 have l2 : d < w.heap.size + 1 := by omega
 go_enter func313, ntmps313
 have g0 : ((w.alloc (.cells #[.pointer (some ⟨r, 0, none⟩)] 81)).alloc (.cells #[.int .i64 0, .int .i64 0, .bool false] 186)).cell? ⟨w.heap.size, 0, none⟩ = some (.pointer (some ⟨r, 0, none⟩)) := by simp
 go_wp2_with fail
 go_region_held3 (fun ww => ww.cell? ⟨w.heap.size, 0, none⟩ = some (.pointer (some ⟨r, 0, none⟩)) ∧ ww.cell? ⟨r, 0, none⟩ = some (.pointer (some ⟨d, 0, none⟩)) ∧ ww.cell? ⟨d, 0, none⟩ = some (.string p.t) ∧ ww.cell? ⟨d, 1, none⟩ = some (.int .i64 p.pl) ∧ ww.cell? ⟨d, 2, none⟩ = some (.int .i64 p.anchor)) (exact qK) ((go_at_call 182; refine Calls.mono (HLs.out _) ?_; rintro r4 w4 ⟨rfl, h4⟩; have hz4 := h4.size; (try simp at hz4); (try have ⟨hl4_0, hk4_0⟩ := qL d w4.heap.size); (try have ⟨hl4_1, hk4_1⟩ := qL r w4.heap.size); (try have ⟨hl4_2, hk4_2⟩ := qL w.heap.size w4.heap.size); obtain ⟨hc4, hf4⟩ := bcell h4; have hb4_0 := fun o => hc4 (w.heap.size + 1) o qO; have fb4_0 := fun o => hf4 (w.heap.size + 1) o qO; (try have hg4_0 : w.heap.size + 1 < w4.heap.size := qo); clear hc4 hf4))
 go_wp2
 exact qV (.agg #[.int .i64 U, .int .i64 V, .bool true]) (by simp [results, results313, go_sem, hb4_0]) rfl
theorem mLead_no (r d : Nat) (p : Pg) (w : World) (h : RdAt w r d p) (hw : waits p = true) :
  qC 149 #[.pointer (some ⟨r, 1, none⟩)] w (.int .i64 4) := by
 have HW : Hid (∀ ww, RdAt ww r d p → qC 39 #[.pointer (some ⟨r, 1, none⟩)] ww (.bool true)) := by
  intro ww hh
  have := mWaiting r d p ww hh
  rw [hw] at this
  exact this
 go_enter func149, ntmps149
 go_wp2_with fail
 refine Calls.mono (HW.out _ qRd) ?_
 rintro e w1 ⟨rfl, h1⟩
 go_wp2
 go_ret
 refine ⟨rfl, ?_⟩
 repeat exact qB
theorem mLead_yes (r d : Nat) (p : Pg) (w : World) (h : RdAt w r d p) (hw : waits p = false) :
  Calls Tryz.prog 149 #[.pointer (some ⟨r, 1, none⟩)] w fun e w' => e = .returned (.int .i64 0) ∧ RdAt w' r d { p with part := 34 } ∧ Upd [r] w w' := by
 have HW : Hid (∀ ww, RdAt ww r d p → qC 39 #[.pointer (some ⟨r, 1, none⟩)] ww (.bool false)) := by
  intro ww hh
  have := mWaiting r d p ww hh
  rw [hw] at this
  exact this
 have HA : Hid (∀ ww, RdAt ww r d p → Calls Tryz.prog 142 #[.pointer (some ⟨r, 1, none⟩), .int .u8 34] ww fun e w' => e = .returned (.int .i64 0) ∧ RdAt w' r d { p with part := 34 } ∧ Upd [r] ww w') := fun ww hh => mAwait r d p 34 ww hh
 go_enter func149, ntmps149
 go_wp2_with fail
 refine Calls.mono (HW.out _ qRd) ?_
 rintro e w1 ⟨rfl, h1⟩
 go_wp2_with fail
 refine Calls.mono (HA.out _ qRd) ?_
 rintro e w2 ⟨rfl, h2, u2⟩
 exact qt15
theorem mName_no (r : Nat) (key : Int) (w : World) (h1 : ¬ key = 34) (h2 : key < 97 ∨ 122 < key) :
  qC 165 #[.pointer (some ⟨r, 1, none⟩), .int .u8 key] w (.int .i64 4) := by
 rcases h2 with h2 | h2
 ·go_enter func165, ntmps165
  go_wp2
  all_goals
   go_ret
   refine ⟨rfl, ?_⟩
   repeat exact qB
 ·have h3 : ¬ key < 97 := by omega
  go_enter func165, ntmps165
  go_wp2
  all_goals
   go_ret
   refine ⟨rfl, ?_⟩
   repeat exact qB
theorem mName_yes (r d : Nat) (p : Pg) (key : Int) (w : World) (h : RdAt w r d p) (hk : key = 34 ∨ (97 ≤ key ∧ key ≤ 122)) :
  Calls Tryz.prog 165 #[.pointer (some ⟨r, 1, none⟩), .int .u8 key] w fun e w' => e = .returned (.int .i64 0) ∧ RdAt w' r d { p with reg := key, part := 0 } ∧ Upd [r] w w' := by
 have HA : Hid (∀ ww, RdAt ww r d { p with reg := key } → Calls Tryz.prog 142 #[.pointer (some ⟨r, 1, none⟩), .int .u8 0] ww fun e w' => e = .returned (.int .i64 0) ∧ RdAt w' r d { p with reg := key, part := 0 } ∧ Upd [r] ww w') := fun ww hh => mAwait r d { p with reg := key } 0 ww hh
 have HS := h.set_reg key
 have b1 := h.bg.c1
 have bz := h.bg.fz
 have bl := h.bg.lt
 generalize hP : ({ p with reg := key, part := 0 } : Pg) = p2 at *
 clear hP
 rcases hk with hk | hk
 ·subst hk
  go_enter func165, ntmps165
  go_wp2_with fail
  refine Calls.mono (HA.out _ qRd) ?_
  rintro e w2 ⟨rfl, h2, u2⟩
  exact qt15
 ·have k1 : ¬ key = 34 := by omega
  have k2 : ¬ key < 97 := by omega
  have k3 : ¬ 122 < key := by omega
  go_enter func165, ntmps165
  go_wp2_with fail
  refine Calls.mono (HA.out _ qRd) ?_
  rintro e w2 ⟨rfl, h2, u2⟩
  exact qt15
theorem mEnds (r d : Nat) (p : Pg) (w : World) (h : RdAt w r d p) (hs : p.t.size ≤ 1000) (ha : p.anchor ≤ p.t.size) :
  Calls Tryz.prog 311 #[.agg #[.pointer (some ⟨r, 0, none⟩)]] w fun e w' => e = .returned (.int .i64 1) ∧ RdAt w' r d { p with anchor := p.pl, pl := clm p.t p.anchor } ∧ Upd [d] w w' := by
 have HM : Hid (∀ ww, RdAt ww r d { p with anchor := p.pl } → Calls Tryz.prog 179 #[.pointer (some ⟨d, 0, none⟩), .int .i64 p.anchor] ww fun e w' => e = .returned (.tuple #[]) ∧ RdAt w' r d { p with anchor := p.pl, pl := clm p.t p.anchor } ∧ Upd [d] ww w') := fun ww hh => mMoveTo r d { p with anchor := p.pl } p.anchor p.anchor ww hh hs rfl ha
 have HS : Hid (∀ ww, RdAt ww r d p → RdAt (ww.setCell ⟨d, 2, none⟩ (.int .i64 p.pl)) r d { p with anchor := p.pl }) := fun ww hh => hh.set_anchor p.pl
 have H := h
 have b0 := h.bg.c0
 have bl := h.bg.lt
 have c1 := h.dk.c1
 have c2 := h.dk.c2
 have fz := h.dk.fz
 have dl := h.dk.lt
 have l1 : r < w.heap.size + 1 := by omega
 have l2 : d < w.heap.size + 1 := by omega
 generalize hP : ({ p with anchor := p.pl, pl := clm p.t p.anchor } : Pg) = p2 at *
 generalize hP3 : ({ p with anchor := p.pl } : Pg) = p3 at *
 clear hP hP3
 go_enter func311, ntmps311
 have g0 : (w.alloc (.cells #[.pointer (some ⟨r, 0, none⟩)] 81)).cell? ⟨w.heap.size, 0, none⟩ = some (.pointer (some ⟨r, 0, none⟩)) := by simp
 go_wp2_with fail
 go_region_held3 (fun ww => ww.cell? ⟨w.heap.size, 0, none⟩ = some (.pointer (some ⟨r, 0, none⟩)) ∧ ww.cell? ⟨r, 0, none⟩ = some (.pointer (some ⟨d, 0, none⟩)) ∧ ww.cell? ⟨d, 1, none⟩ = some (.int .i64 p.pl)) (exact qK) (fail)
 have HS2 := HS.out w H
 have hsz : (w.setCell ⟨d, 2, none⟩ (.int .i64 p.pl)).heap.size = w.heap.size := by simp [World.setCell]
 go_wp2_with fail
 refine Calls.mono (HM.out _ qRd) ?_
 rintro e w2 ⟨rfl, h2, u2⟩
 exact qt15
