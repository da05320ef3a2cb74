/- A part. -/
import Derived.Test.YtlendfhehhacpaaGreatQ22
import Derived.Test.YtlendfhehhacpaaGreatQ25
import Derived.Test.YtlendfhehhacpaaGreatQ24
set_option linter.unusedVariables false
set_option linter.unusedSimpArgs false
set_option maxRecDepth 100000
set_option maxHeartbeats 8000000
namespace Go.Proofs.YtlendfhehhacpaaGreat
open Go.RowKit Nib Tryz
theorem sTaken_out (s : ByteArray) (p n q : Int) (v c : Bool) (w : World) :
  qC 203 #[.agg #[.string s, .int .i64 (p), .int .i64 (n), .bool v, .bool c], .agg #[.int .i64 (q), .int .i64 (0)]] w (.agg #[.int .i64 (min p q), .int .i64 (max p q), .bool false]) := by
 rcases Int.lt_trichotomy p q with h | h | h
 ·rw [show min p q = p by omega, show max p q = q by omega]
  go_enter func203, ntmps203
  go_wp2
  refine bodyPost_ret (v := .agg #[.int .i64 p, .int .i64 q, .bool false]) (by simp [results, results203, go_sem]) rfl ⟨rfl, ?_⟩
  exact qB
 ·subst h; rw [Int.min_self, Int.max_self]
  go_enter func203, ntmps203
  go_wp2
  refine bodyPost_ret (v := .agg #[.int .i64 p, .int .i64 p, .bool false]) (by simp [results, results203, go_sem]) rfl ⟨rfl, ?_⟩
  exact qB
 ·rw [show min p q = q by omega, show max p q = p by omega]
  go_enter func203, ntmps203
  go_wp2
  refine bodyPost_ret (v := .agg #[.int .i64 q, .int .i64 p, .bool false]) (by simp [results, results203, go_sem]) rfl ⟨rfl, ?_⟩
  exact qB
theorem sTaken_in (s : ByteArray) (p n q : Int) (v c : Bool) (w : World) (hp : 0 ≤ p ∧ p ≤ 5000) (hq : 0 ≤ q ∧ q ≤ 5000) :
  qC 203 #[.agg #[.string s, .int .i64 (p), .int .i64 (n), .bool v, .bool c], .agg #[.int .i64 (q), .int .i64 (1)]] w (.agg #[.int .i64 (min p q), .int .i64 (max p q + 1), .bool false]) := by
 rcases Int.lt_trichotomy p q with h | h | h
 ·rw [show min p q = p by omega, show max p q = q by omega]
  go_enter func203, ntmps203
  go_wp2
  refine bodyPost_ret (v := .agg #[.int .i64 p, .int .i64 (q + 1), .bool false]) (by simp [results, results203, go_sem]) rfl ⟨rfl, ?_⟩
  exact qB
 ·subst h; rw [Int.min_self, Int.max_self]
  go_enter func203, ntmps203
  go_wp2
  refine bodyPost_ret (v := .agg #[.int .i64 p, .int .i64 (p + 1), .bool false]) (by simp [results, results203, go_sem]) rfl ⟨rfl, ?_⟩
  exact qB
 ·rw [show min p q = q by omega, show max p q = p by omega]
  go_enter func203, ntmps203
  go_wp2
  refine bodyPost_ret (v := .agg #[.int .i64 q, .int .i64 (p + 1), .bool false]) (by simp [results, results203, go_sem]) rfl ⟨rfl, ?_⟩
  exact qB
theorem qt22 {P : Prop} (h : P := by
  go_enter func203, ntmps203
  go_wp2_with fail
  refine (HL.out _).mono ?_
  rintro e w1 ⟨rfl, h1⟩
  obtain ⟨hc1, hf1, hz1⟩ := qb h1
  try simp at hz1
  have l1 : w.heap.size + 1 + 1 < w1.heap.size := by omega
  have z0 : ∀ o, w1.frozen? ⟨w.heap.size + 1 + 1, o, none⟩ = false := by intro o; rw [hf1 _ _ qi]; go_simp
  have c1 : w1.cell? ⟨w.heap.size + 1 + 1, 0, none⟩ = some (.int .i64 0) := by rw [hc1 _ _ qi]; go_simp
  have c2 : w1.cell? ⟨w.heap.size + 1 + 1, 1, none⟩ = some (.int .i64 0) := by rw [hc1 _ _ qi]; go_simp
  have c3 : w1.cell? ⟨w.heap.size + 1 + 1, 2, none⟩ = some (.bool false) := by rw [hc1 _ _ qi]; go_simp
  clear hc1 hf1
  go_wp2
  refine bodyPost_ret (v := .agg #[.int .i64 X, .int .i64 Y, .bool true]) (by simp [results, results203, go_sem, c1, c2, c3, z0, l1]) rfl ⟨rfl, ?_⟩
  exact qB
 ) : P := h
theorem sTaken_lines (s : ByteArray) (p q : Nat) (n : Int) (v c : Bool) (w : World) (hs : s.size ≤ 1000) (hp : p ≤ s.size) (hq : q ≤ s.size) :
  qC 203 #[.agg #[.string s, .int .i64 (p), .int .i64 (n), .bool v, .bool c], .agg #[.int .i64 (q), .int .i64 (2)]] w (.agg #[.int .i64 (min (beg s p) (beg s q)), .int .i64 (max (fin s p) (fin s q)), .bool true]) := by
 rcases Nat.lt_trichotomy p q with h | h | h
 ·have HL : qH 182 #[.string s, .int .i64 p, .int .i64 q] (.agg #[.int .i64 (min (beg s p) (beg s q)), .int .i64 (max (fin s p) (fin s q)), .bool true]) := fun ww => tLines_any s p q p q ww hs rfl rfl hp hq
  generalize min (beg s p : Int) (beg s q) = X at *
  generalize max (fin s p : Int) (fin s q) = Y at *
  exact qt22
 ·subst h
  have HL : qH 182 #[.string s, .int .i64 p, .int .i64 p] (.agg #[.int .i64 (min (beg s p) (beg s p)), .int .i64 (max (fin s p) (fin s p)), .bool true]) := fun ww => tLines_any s p p p p ww hs rfl rfl hp hp
  generalize min (beg s p : Int) (beg s p) = X at *
  generalize max (fin s p : Int) (fin s p) = Y at *
  exact qt22
 ·have HL : qH 182 #[.string s, .int .i64 q, .int .i64 p] (.agg #[.int .i64 (min (beg s p) (beg s q)), .int .i64 (max (fin s p) (fin s q)), .bool true]) := by
   intro ww
   rw [Int.min_comm, Int.max_comm]
   exact tLines_any s q p q p ww hs rfl rfl hq hp
  generalize min (beg s p : Int) (beg s q) = X at *
  generalize max (fin s p : Int) (fin s q) = Y at *
  exact qt22
theorem mMarked_lines (r d : Nat) (p : Pg) (w : World) (h : RdAt w r d p) (hs : p.t.size ≤ 1000) (hl : p.pl ≤ p.t.size) (ha : p.anchor ≤ p.t.size) (hm : p.mode = 3) :
  qC 313 #[.agg #[.pointer (some ⟨r, 0, none⟩)]] w (.agg #[.int .i64 (min (beg p.t p.anchor) (beg p.t p.pl)), .int .i64 (max (fin p.t p.anchor) (fin p.t p.pl)), .bool true]) := by
 have HLs : qH 182 #[.string p.t, .int .i64 (p.anchor : Nat), .int .i64 (p.pl : Nat)] (.agg #[.int .i64 (min (beg p.t p.anchor) (beg p.t p.pl)), .int .i64 (max (fin p.t p.anchor) (fin p.t p.pl)), .bool true]) := fun ww => tLines_any p.t _ _ p.anchor p.pl ww hs rfl rfl ha hl
 generalize min (beg p.t p.anchor : Int) (beg p.t p.pl) = U at *
 generalize max (fin p.t p.anchor : Int) (fin p.t p.pl) = V at *
 have H := h
 have r0 := h.bg.c0
 have d0 := h.dk.c0
 have d1 := h.dk.c1
 have d2 := h.dk.c2
 have d3 := h.dk.c3
 rw [hm] at d3
 have hld := h.dk.lt
 have hlr := h.bg.lt
 clear h hm
 have l1 : r < w.heap.size + 1 := by omega
 have l2 : d < w.heap.size + 1 := by omega
 go_enter func313, ntmps313
 have g0 : ((w.alloc (.cells #[.pointer (some ⟨r, 0, none⟩)] 81)).alloc (.cells #[.int .i64 0, .int .i64 0, .bool false] 186)).cell? ⟨w.heap.size, 0, none⟩ = some (.pointer (some ⟨r, 0, none⟩)) := by simp
 go_wp2_with fail
 go_region_held3 (fun ww => ww.cell? ⟨w.heap.size, 0, none⟩ = some (.pointer (some ⟨r, 0, none⟩)) ∧ ww.cell? ⟨r, 0, none⟩ = some (.pointer (some ⟨d, 0, none⟩)) ∧ ww.cell? ⟨d, 0, none⟩ = some (.string p.t) ∧ ww.cell? ⟨d, 1, none⟩ = some (.int .i64 p.pl) ∧ ww.cell? ⟨d, 2, none⟩ = some (.int .i64 p.anchor)) (exact qK) ((go_at_call 182; refine Calls.mono (HLs.out _) ?_; rintro r4 w4 ⟨rfl, h4⟩; have hz4 := h4.size; (try simp at hz4); (try have ⟨hl4_0, hk4_0⟩ := qL d w4.heap.size); (try have ⟨hl4_1, hk4_1⟩ := qL r w4.heap.size); (try have ⟨hl4_2, hk4_2⟩ := qL w.heap.size w4.heap.size); obtain ⟨hc4, hf4⟩ := bcell h4; have hb4_0 := fun o => hc4 (w.heap.size + 1) o qO; have fb4_0 := fun o => hf4 (w.heap.size + 1) o qO; (try have hg4_0 : w.heap.size + 1 < w4.heap.size := qo); clear hc4 hf4))
 go_wp2
 exact qV (.agg #[.int .i64 U, .int .i64 V, .bool true]) (by simp [results, results313, go_sem, hb4_0]) rfl
theorem RgAt.new {w : World} {m k : Nat} (h : w.heap[m]? = some (.map #[] k)) : RgAt w m (fun _ => .agg #[.string ⟨#[]⟩, .bool false]) :=
 ⟨#[], k, h, by simp [RgOk], fun d => by simp [rgFind, rgVal]⟩
theorem RgAt.look {w : World} {m : Nat} {f : Int → Value} (h : RgAt w m f) (c : Int) : (Instr.lookup 90 (.map (some m)) (.int .u8 c) false).run Tryz.prog w = .ok (f c) w := by
 obtain ⟨es, k, h1, h2, h3⟩ := h.out
 rw [rg_look m k c es w h1 h2, h3]
theorem bRegister_at (b r d m : Nat) (tv : Value) (dg : ByteArray) (p : Pg) (c : Int) (f : Int → Value) (t : ByteArray) (l : Bool) (w : World) (hb : BdAt w b r d tv dg) (h : RdAt w r d p) (hm : p.regs = .map (some m)) (hg : RgAt w m f) (hf : f c = .agg #[.string t, .bool l]) :
  qC 32 #[.pointer (some ⟨b, 0, none⟩), .int .u8 c] w (.tuple #[.string t, .bool l]) := by
 have c4 := h.dk.c4
 rw [hm] at c4
 have b0 := hb.c0
 have r0 := h.bg.c0
 have bl := hb.lt
 have rl := h.bg.lt
 have dl := h.dk.lt
 have l1 : d < w.heap.size + 1 := by omega
 have l2 : r < w.heap.size + 1 := by omega
 have l3 : b < w.heap.size + 1 := by omega
 clear hb h
 have hlk := hg.look c
 rw [hf] at hlk
 clear hg hf
 go_enter func32, ntmps32
 go_wp2_with fail
 go_region_held3 (fun ww => ww.cell? ⟨w.heap.size, 0, none⟩ = some (.string t) ∧ ww.cell? ⟨w.heap.size, 1, none⟩ = some (.bool l)) (exact qK) (fail)
 go_wp2
 go_ret2
 refine ⟨rfl, ?_⟩
 repeat exact qB
theorem nRegister_at (q b r d m : Nat) (tv : Value) (dg : ByteArray) (p : Pg) (c : Int) (f : Int → Value) (t : ByteArray) (l : Bool) (w : World) (hq : w.cell? ⟨q, 0, none⟩ = some (.pointer (some ⟨b, 0, none⟩))) (hb : BdAt w b r d tv dg) (h : RdAt w r d p) (hm : p.regs = .map (some m)) (hg : RgAt w m f) (hf : f c = .agg #[.string t, .bool l]) :
  qC 20 #[.pointer (some ⟨q, 0, none⟩), .int .u8 c] w (.tuple #[.string t, .bool l]) := by
 have HS : Hid (∀ ww, ww = w → qC 32 #[.pointer (some ⟨b, 0, none⟩), .int .u8 c] ww (.tuple #[.string t, .bool l])) := fun ww h1 => by subst h1; exact bRegister_at b r d m tv dg p c f t l ww hb h hm hg hf
 clear hb h hm hg hf
 go_enter func20, ntmps20
 go_wp2_with fail
 refine Calls.mono (HS.out _ rfl) ?_
 rintro e w1 ⟨rfl, h1⟩
 go_wp2
 go_ret2
 exact ⟨rfl, h1⟩
theorem mLead_no (r d : Nat) (p : Pg) (w : World) (h : RdAt w r d p) (hw : waits p = true) :
  qC 149 #[.pointer (some ⟨r, 1, none⟩)] w (.int .i64 4) := by
 have HW : Hid (∀ ww, RdAt ww r d p → qC 39 #[.pointer (some ⟨r, 1, none⟩)] ww (.bool true)) := by
  intro ww hh
  have := mWaiting r d p ww hh
  rw [hw] at this
  exact this
 go_enter func149, ntmps149
 go_wp2_with fail
 refine Calls.mono (HW.out _ qRd) ?_
 rintro e w1 ⟨rfl, h1⟩
 go_wp2
 go_ret
 refine ⟨rfl, ?_⟩
 repeat exact qB
theorem mLead_yes (r d : Nat) (p : Pg) (w : World) (h : RdAt w r d p) (hw : waits p = false) :
  Calls Tryz.prog 149 #[.pointer (some ⟨r, 1, none⟩)] w fun e w' => e = .returned (.int .i64 0) ∧ RdAt w' r d { p with part := 34 } ∧ Upd [r] w w' := by
 have HW : Hid (∀ ww, RdAt ww r d p → qC 39 #[.pointer (some ⟨r, 1, none⟩)] ww (.bool false)) := by
  intro ww hh
  have := mWaiting r d p ww hh
  rw [hw] at this
  exact this
 have HA : Hid (∀ ww, RdAt ww r d p → Calls Tryz.prog 142 #[.pointer (some ⟨r, 1, none⟩), .int .u8 34] ww fun e w' => e = .returned (.int .i64 0) ∧ RdAt w' r d { p with part := 34 } ∧ Upd [r] ww w') := fun ww hh => mAwait r d p 34 ww hh
 go_enter func149, ntmps149
 go_wp2_with fail
 refine Calls.mono (HW.out _ qRd) ?_
 rintro e w1 ⟨rfl, h1⟩
 go_wp2_with fail
 refine Calls.mono (HA.out _ qRd) ?_
 rintro e w2 ⟨rfl, h2, u2⟩
 exact qt16
theorem mName_no (r : Nat) (key : Int) (w : World) (h1 : ¬ key = 34) (h2 : key < 97 ∨ 122 < key) :
  qC 165 #[.pointer (some ⟨r, 1, none⟩), .int .u8 key] w (.int .i64 4) := by
 rcases h2 with h2 | h2
 ·go_enter func165, ntmps165
  go_wp2
  all_goals
   go_ret
   refine ⟨rfl, ?_⟩
   repeat exact qB
 ·have h3 : ¬ key < 97 := by omega
  go_enter func165, ntmps165
  go_wp2
  all_goals
   go_ret
   refine ⟨rfl, ?_⟩
   repeat exact qB
theorem mName_yes (r d : Nat) (p : Pg) (key : Int) (w : World) (h : RdAt w r d p) (hk : key = 34 ∨ (97 ≤ key ∧ key ≤ 122)) :
  Calls Tryz.prog 165 #[.pointer (some ⟨r, 1, none⟩), .int .u8 key] w fun e w' => e = .returned (.int .i64 0) ∧ RdAt w' r d { p with reg := key, part := 0 } ∧ Upd [r] w w' := by
 have HA : Hid (∀ ww, RdAt ww r d { p with reg := key } → Calls Tryz.prog 142 #[.pointer (some ⟨r, 1, none⟩), .int .u8 0] ww fun e w' => e = .returned (.int .i64 0) ∧ RdAt w' r d { p with reg := key, part := 0 } ∧ Upd [r] ww w') := fun ww hh => mAwait r d { p with reg := key } 0 ww hh
 have HS := h.set_reg key
 have b1 := h.bg.c1
 have bz := h.bg.fz
 have bl := h.bg.lt
 generalize hP : ({ p with reg := key, part := 0 } : Pg) = p2 at *
 clear hP
 rcases hk with hk | hk
 ·subst hk
  go_enter func165, ntmps165
  go_wp2_with fail
  refine Calls.mono (HA.out _ qRd) ?_
  rintro e w2 ⟨rfl, h2, u2⟩
  exact qt16
 ·have k1 : ¬ key = 34 := by omega
  have k2 : ¬ key < 97 := by omega
  have k3 : ¬ 122 < key := by omega
  go_enter func165, ntmps165
  go_wp2_with fail
  refine Calls.mono (HA.out _ qRd) ?_
  rintro e w2 ⟨rfl, h2, u2⟩
  exact qt16
theorem mEnds (r d : Nat) (p : Pg) (w : World) (h : RdAt w r d p) (hs : p.t.size ≤ 1000) (ha : p.anchor ≤ p.t.size) :
  Calls Tryz.prog 311 #[.agg #[.pointer (some ⟨r, 0, none⟩)]] w fun e w' => e = .returned (.int .i64 1) ∧ RdAt w' r d { p with anchor := p.pl, pl := clm p.t p.anchor } ∧ Upd [d] w w' := by
 have HM : Hid (∀ ww, RdAt ww r d { p with anchor := p.pl } → Calls Tryz.prog 179 #[.pointer (some ⟨d, 0, none⟩), .int .i64 p.anchor] ww fun e w' => e = .returned (.tuple #[]) ∧ RdAt w' r d { p with anchor := p.pl, pl := clm p.t p.anchor } ∧ Upd [d] ww w') := fun ww hh => mMoveTo r d { p with anchor := p.pl } p.anchor p.anchor ww hh hs rfl ha
 have HS : Hid (∀ ww, RdAt ww r d p → RdAt (ww.setCell ⟨d, 2, none⟩ (.int .i64 p.pl)) r d { p with anchor := p.pl }) := fun ww hh => hh.set_anchor p.pl
 have H := h
 have b0 := h.bg.c0
 have bl := h.bg.lt
 have c1 := h.dk.c1
 have c2 := h.dk.c2
 have fz := h.dk.fz
 have dl := h.dk.lt
 have l1 : r < w.heap.size + 1 := by omega
 have l2 : d < w.heap.size + 1 := by omega
 generalize hP : ({ p with anchor := p.pl, pl := clm p.t p.anchor } : Pg) = p2 at *
 generalize hP3 : ({ p with anchor := p.pl } : Pg) = p3 at *
 clear hP hP3
 go_enter func311, ntmps311
 have g0 : (w.alloc (.cells #[.pointer (some ⟨r, 0, none⟩)] 81)).cell? ⟨w.heap.size, 0, none⟩ = some (.pointer (some ⟨r, 0, none⟩)) := by simp
 go_wp2_with fail
 go_region_held3 (fun ww => ww.cell? ⟨w.heap.size, 0, none⟩ = some (.pointer (some ⟨r, 0, none⟩)) ∧ ww.cell? ⟨r, 0, none⟩ = some (.pointer (some ⟨d, 0, none⟩)) ∧ ww.cell? ⟨d, 1, none⟩ = some (.int .i64 p.pl)) (exact qK) (fail)
 have HS2 := HS.out w H
 have hsz : (w.setCell ⟨d, 2, none⟩ (.int .i64 p.pl)).heap.size = w.heap.size := by simp [World.setCell]
 go_wp2_with fail
 refine Calls.mono (HM.out _ qRd) ?_
 rintro e w2 ⟨rfl, h2, u2⟩
 exact qt16
theorem mKeepI_grow (b r d : Nat) (tv : Value) (dg : ByteArray) (key : Int) (ao : Option Addr) (n cap : Nat) (xs : List Value) (w : World) (hb : BdAt w b r d tv dg) (htv : tv = .slice ao n cap) (hnone : ao = none → n = 0 ∧ cap = 0) (hsome : ∀ a, ao = some a → ∃ g, a = ⟨g, 0, none⟩)
  (ho : w.ownsRow 0 5 1 tv n xs) (hc : cap < n + 1) (hn : n ≤ 17592186044416) (hn0 : 0 < n) :
  Calls Tryz.prog 47 #[.pointer (some ⟨b, 1, none⟩), .int .u8 key, .int .i64 1] w fun e w' => e = .returned (.tuple #[]) ∧ ∃ tv', BdAt w' b r d tv' dg ∧ w'.ownsRow (w.heap.size + 1) 5 1 tv' (n + 1) (xs ++ [.int .u8 key]) ∧ Upd [b] w w' := by
 have HB := hb
 obtain ⟨b0, b1, b2, b3, b4, b5, bz, bl⟩ := hb
 subst htv
 obtain ⟨i0, hi, hz0, hz1, hz2⟩ := info_parts infoU8
 have HL : Hid (xs.length = n * 1) := ho.1
 have HO : Hid (∀ o : Obj, ∀ a, ao = some a → ∀ j u, xs[j]? = some u → (w.alloc o).cell? (a.add j) = some u) := by
  intro o a ha j u hu
  obtain ⟨g, rfl⟩ := hsome a ha
  subst ha
  exact (ho.alloc o).cells (g := g) rfl j u hu
 have HN : Hid (∀ j u, [Value.int .u8 key][j]? = some u → (w.alloc (.cells #[.int .u8 key] 5)).cell? ((⟨w.heap.size, 0, none⟩ : Addr).add j) = some u) := by
  intro j u hj
  match j, hj with
  | 0, hj => simp at hj; subst hj; simp [Addr.add]
 clear ho hsome
 have hn1 : (0 : Int) < ((n : Nat) : Int) := by omega
 exact qt30
theorem mKeepI_room (b r d g : Nat) (dg : ByteArray) (key : Int) (n cap : Nat) (xs : List Value) (w : World) (hb : BdAt w b r d (.slice (some ⟨g, 0, none⟩) n cap) dg) (hgb : g ≠ b)
  (ho : w.ownsRow 0 5 1 (.slice (some ⟨g, 0, none⟩) n cap) n xs) (hc : n + 1 ≤ cap) (hn : n ≤ 17592186044416) (hn0 : 0 < n) :
  Calls Tryz.prog 47 #[.pointer (some ⟨b, 1, none⟩), .int .u8 key, .int .i64 1] w fun e w' => e = .returned (.tuple #[]) ∧ BdAt w' b r d (.slice (some ⟨g, 0, none⟩) (n + 1) cap) dg ∧ w'.ownsRow 0 5 1 (.slice (some ⟨g, 0, none⟩) (n + 1) cap) (n + 1) (xs ++ [.int .u8 key]) ∧ Upd [b, g] w w' := by
 have HB := hb
 obtain ⟨b0, b1, b2, b3, b4, b5, bz, bl⟩ := hb
 obtain ⟨i0, hi, hz0, hz1, hz2⟩ := info_parts infoU8
 have HO : Hid (∀ o : Obj, (w.alloc o).ownsRow 0 5 1 (.slice (some ⟨g, 0, none⟩) n cap) n xs) := fun o => ho.alloc o
 have HN : Hid (∀ j u, [Value.int .u8 key][j]? = some u → (w.alloc (.cells #[.int .u8 key] 5)).cell? ((⟨w.heap.size, 0, none⟩ : Addr).add j) = some u) := by
  intro j u hj
  match j, hj with
  | 0, hj => simp at hj; subst hj; simp [Addr.add]
 clear ho
 have hn1 : (0 : Int) < ((n : Nat) : Int) := by omega
 exact qt34
theorem mKeep_ins (b r d : Nat) (tv : Value) (dg : ByteArray) (key : Int) (n : Nat) (xs : List Value) (w : World) (hb : BdAt w b r d tv dg) (hne : tv.ownBlock ≠ some b)
  (ho : w.ownsRow 0 5 1 tv n xs) (hn : n ≤ 17592186044416) (hn0 : 0 < n) :
  Calls Tryz.prog 47 #[.pointer (some ⟨b, 1, none⟩), .int .u8 key, .int .i64 1] w fun e w' => e = .returned (.tuple #[]) ∧ ∃ tv', BdAt w' b r d tv' dg ∧ w'.ownsRow 0 5 1 tv' (n + 1) (xs ++ [.int .u8 key]) ∧ (tv'.ownBlock = tv.ownBlock ∨ ∃ g, tv'.ownBlock = some g ∧ w.heap.size ≤ g) ∧ Upd (b :: own tv) w w' := by
 rcases ho.2 with ⟨rfl, rfl⟩ | ⟨g, cap, cur, rfl, h1, h2, h3, h4⟩
 ·omega
 ·by_cases hc : n + 1 ≤ cap
  ·have hgb : g ≠ b := fun e => hne (by rw [e]; rfl)
   refine Calls.mono (mKeepI_room b r d g dg key n cap xs w hb hgb ho hc hn hn0) ?_
   rintro e w' ⟨rfl, hB, hO, hU⟩
   exact ⟨rfl, _, hB, hO, Or.inl rfl, hU.mono (by simp [own, Value.ownBlock])⟩
  ·refine Calls.mono (mKeepI_grow b r d _ dg key (some ⟨g, 0, none⟩) n cap xs w hb rfl (fun h => by cases h) (fun a h => ⟨g, by simpa using h.symm⟩) ho qo hn hn0) ?_
   rintro e w' ⟨rfl, tv', hB, hO, hU⟩
   obtain ⟨g', cp, rfl, hg⟩ := owned_some hO qo
   exact ⟨rfl, _, hB, ownsRow_base hO (Nat.zero_le _), Or.inr ⟨g', rfl, by omega⟩, hU.mono qi⟩
theorem mKeep_insNo (b r d : Nat) (a : Option Addr) (cap : Nat) (dg : ByteArray) (key : Int) (w : World) (hb : BdAt w b r d (.slice a 0 cap) dg) :
  qC 47 #[.pointer (some ⟨b, 1, none⟩), .int .u8 key, .int .i64 1] w (.tuple #[]) := by
 obtain ⟨b0, b1, b2, b3, b4, b5, bz, bl⟩ := hb
 go_enter func47, ntmps47
 go_wp2
 go_end0
 exact ⟨rfl, Below.refl _ _⟩
theorem mEnd_no (b r d : Nat) (a : Option Addr) (cap : Nat) (dg : ByteArray) (O : Int) (w : World) (hb : BdAt w b r d (.slice a 0 cap) dg) :
  Calls Tryz.prog 48 #[.pointer (some ⟨b, 1, none⟩), .int .i64 O] w fun e w' => e = .returned (.tuple #[]) ∧ BdAt w' b r d (.slice none 0 0) dg ∧ Upd [b] w w' := by
 by_cases hO : O = 2
 ·have HS := hb.set_tv (.slice none 0 0)
  obtain ⟨b0, b1, b2, b3, b4, b5, bz, bl⟩ := hb
  subst hO
  go_enter func48, ntmps48
  go_wp2
  go_end0
  refine ⟨rfl, HS, ?_⟩
  repeat exact qU
 ·exact mEnd b r d _ dg O w hb hO
