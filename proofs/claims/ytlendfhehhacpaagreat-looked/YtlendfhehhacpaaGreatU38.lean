/- A part. -/
import Derived.Test.YtlendfhehhacpaaGreatU33
import Derived.Test.YtlendfhehhacpaaGreatU23
set_option linter.unusedVariables false
set_option linter.unusedSimpArgs false
set_option maxRecDepth 100000
set_option maxHeartbeats 8000000
namespace Go.Proofs.YtlendfhehhacpaaGreat
open Go.RowKit Nib Tryz
theorem tSeekE_41 (s : ByteArray) (q d : Nat) (w : World) (hs : s.size ≤ 1000) (hq : q ≤ s.size) (hd : d ≤ 1) (hd0 : 1 ≤ d ∨ bt s q = 41) :
  qC 287 #[.string s, .int .u8 41, .int .i64 q, .int .i64 d] w (.tuple #[.int .i64 (mtI (mtD s 41 40 d (q + 1))), .bool (mtB (mtD s 41 40 d (q + 1)))]) :=
 tSeekE_gen 41 40 1 0 qd qd qd qd qd qd qd qd qd s q d w hs hq hd hd0
theorem tSeek_41 (s : ByteArray) (q d : Nat) (w : World) (hs : s.size ≤ 1000) (hq : q < s.size) (hd : d ≤ 1) (hd0 : 1 ≤ d ∨ bt s q = 41) :
  qC 287 #[.string s, .int .u8 41, .int .i64 q, .int .i64 d] w (.tuple #[.int .i64 (mtI (mtD s 41 40 d (q + 1))), .bool (mtB (mtD s 41 40 d (q + 1)))]) :=
 tSeekE_41 s q d w hs (Nat.le_of_lt hq) hd hd0
theorem tSeek_93 (s : ByteArray) (q d : Nat) (w : World) (hs : s.size ≤ 1000) (hq : q < s.size) (hd : d ≤ 1) (hd0 : 1 ≤ d ∨ bt s q = 93) :
  qC 287 #[.string s, .int .u8 93, .int .i64 q, .int .i64 d] w (.tuple #[.int .i64 (mtI (mtD s 93 91 d (q + 1))), .bool (mtB (mtD s 93 91 d (q + 1)))]) :=
 tSeekE_93 s q d w hs (Nat.le_of_lt hq) hd hd0
theorem tSeek_125 (s : ByteArray) (q d : Nat) (w : World) (hs : s.size ≤ 1000) (hq : q < s.size) (hd : d ≤ 1) (hd0 : 1 ≤ d ∨ bt s q = 125) :
  qC 287 #[.string s, .int .u8 125, .int .i64 q, .int .i64 d] w (.tuple #[.int .i64 (mtI (mtD s 125 123 d (q + 1))), .bool (mtB (mtD s 125 123 d (q + 1)))]) :=
 tSeekE_125 s q d w hs (Nat.le_of_lt hq) hd hd0
theorem sTaken_out (s : ByteArray) (p n q : Int) (v c : Bool) (w : World) :
  qC 203 #[.agg #[.string s, .int .i64 (p), .int .i64 (n), .bool v, .bool c], .agg #[.int .i64 (q), .int .i64 (0)]] w (.agg #[.int .i64 (min p q), .int .i64 (max p q), .bool false]) := by
 rcases Int.lt_trichotomy p q with h | h | h
 ·rw [show min p q = p by omega, show max p q = q by omega]
  go_enter func203, ntmps203
  go_wp2
  refine bodyPost_ret (v := .agg #[.int .i64 p, .int .i64 q, .bool false]) (by simp [results, results203, go_sem]) rfl ⟨rfl, ?_⟩
  exact qB
 ·subst h; rw [Int.min_self, Int.max_self]
  go_enter func203, ntmps203
  go_wp2
  refine bodyPost_ret (v := .agg #[.int .i64 p, .int .i64 p, .bool false]) (by simp [results, results203, go_sem]) rfl ⟨rfl, ?_⟩
  exact qB
 ·rw [show min p q = q by omega, show max p q = p by omega]
  go_enter func203, ntmps203
  go_wp2
  refine bodyPost_ret (v := .agg #[.int .i64 q, .int .i64 p, .bool false]) (by simp [results, results203, go_sem]) rfl ⟨rfl, ?_⟩
  exact qB
theorem sTaken_in (s : ByteArray) (p n q : Int) (v c : Bool) (w : World) (hp : 0 ≤ p ∧ p ≤ 5000) (hq : 0 ≤ q ∧ q ≤ 5000) :
  qC 203 #[.agg #[.string s, .int .i64 (p), .int .i64 (n), .bool v, .bool c], .agg #[.int .i64 (q), .int .i64 (1)]] w (.agg #[.int .i64 (min p q), .int .i64 (max p q + 1), .bool false]) := by
 rcases Int.lt_trichotomy p q with h | h | h
 ·rw [show min p q = p by omega, show max p q = q by omega]
  go_enter func203, ntmps203
  go_wp2
  refine bodyPost_ret (v := .agg #[.int .i64 p, .int .i64 (q + 1), .bool false]) (by simp [results, results203, go_sem]) rfl ⟨rfl, ?_⟩
  exact qB
 ·subst h; rw [Int.min_self, Int.max_self]
  go_enter func203, ntmps203
  go_wp2
  refine bodyPost_ret (v := .agg #[.int .i64 p, .int .i64 (p + 1), .bool false]) (by simp [results, results203, go_sem]) rfl ⟨rfl, ?_⟩
  exact qB
 ·rw [show min p q = q by omega, show max p q = p by omega]
  go_enter func203, ntmps203
  go_wp2
  refine bodyPost_ret (v := .agg #[.int .i64 q, .int .i64 (p + 1), .bool false]) (by simp [results, results203, go_sem]) rfl ⟨rfl, ?_⟩
  exact qB
theorem qt16 {P : Prop} (h : P := by
  go_enter func203, ntmps203
  go_wp2_with fail
  refine (HL.out _).mono ?_
  rintro e w1 ⟨rfl, h1⟩
  obtain ⟨hc1, hf1, hz1⟩ := qb h1
  try simp at hz1
  have l1 : w.heap.size + 1 + 1 < w1.heap.size := by omega
  have z0 : ∀ o, w1.frozen? ⟨w.heap.size + 1 + 1, o, none⟩ = false := by intro o; rw [hf1 _ _ qi]; go_simp
  have c1 : w1.cell? ⟨w.heap.size + 1 + 1, 0, none⟩ = some (.int .i64 0) := by rw [hc1 _ _ qi]; go_simp
  have c2 : w1.cell? ⟨w.heap.size + 1 + 1, 1, none⟩ = some (.int .i64 0) := by rw [hc1 _ _ qi]; go_simp
  have c3 : w1.cell? ⟨w.heap.size + 1 + 1, 2, none⟩ = some (.bool false) := by rw [hc1 _ _ qi]; go_simp
  clear hc1 hf1
  go_wp2
  refine bodyPost_ret (v := .agg #[.int .i64 X, .int .i64 Y, .bool true]) (by simp [results, results203, go_sem, c1, c2, c3, z0, l1]) rfl ⟨rfl, ?_⟩
  exact qB
 ) : P := h
theorem sTaken_lines (s : ByteArray) (p q : Nat) (n : Int) (v c : Bool) (w : World) (hs : s.size ≤ 1000) (hp : p ≤ s.size) (hq : q ≤ s.size) :
  qC 203 #[.agg #[.string s, .int .i64 (p), .int .i64 (n), .bool v, .bool c], .agg #[.int .i64 (q), .int .i64 (2)]] w (.agg #[.int .i64 (min (beg s p) (beg s q)), .int .i64 (max (fin s p) (fin s q)), .bool true]) := by
 rcases Nat.lt_trichotomy p q with h | h | h
 ·have HL : qH 182 #[.string s, .int .i64 p, .int .i64 q] (.agg #[.int .i64 (min (beg s p) (beg s q)), .int .i64 (max (fin s p) (fin s q)), .bool true]) := fun ww => tLines_any s p q p q ww hs rfl rfl hp hq
  generalize min (beg s p : Int) (beg s q) = X at *
  generalize max (fin s p : Int) (fin s q) = Y at *
  exact qt16
 ·subst h
  have HL : qH 182 #[.string s, .int .i64 p, .int .i64 p] (.agg #[.int .i64 (min (beg s p) (beg s p)), .int .i64 (max (fin s p) (fin s p)), .bool true]) := fun ww => tLines_any s p p p p ww hs rfl rfl hp hp
  generalize min (beg s p : Int) (beg s p) = X at *
  generalize max (fin s p : Int) (fin s p) = Y at *
  exact qt16
 ·have HL : qH 182 #[.string s, .int .i64 q, .int .i64 p] (.agg #[.int .i64 (min (beg s p) (beg s q)), .int .i64 (max (fin s p) (fin s q)), .bool true]) := by
   intro ww
   rw [Int.min_comm, Int.max_comm]
   exact tLines_any s q p q p ww hs rfl rfl hq hp
  generalize min (beg s p : Int) (beg s q) = X at *
  generalize max (fin s p : Int) (fin s q) = Y at *
  exact qt16
theorem mMarked_lines (r d : Nat) (p : Pg) (w : World) (h : RdAt w r d p) (hs : p.t.size ≤ 1000) (hl : p.pl ≤ p.t.size) (ha : p.anchor ≤ p.t.size) (hm : p.mode = 3) :
  qC 313 #[.agg #[.pointer (some ⟨r, 0, none⟩)]] w (.agg #[.int .i64 (min (beg p.t p.anchor) (beg p.t p.pl)), .int .i64 (max (fin p.t p.anchor) (fin p.t p.pl)), .bool true]) := by
 have HLs : qH 182 #[.string p.t, .int .i64 (p.anchor : Nat), .int .i64 (p.pl : Nat)] (.agg #[.int .i64 (min (beg p.t p.anchor) (beg p.t p.pl)), .int .i64 (max (fin p.t p.anchor) (fin p.t p.pl)), .bool true]) := fun ww => tLines_any p.t _ _ p.anchor p.pl ww hs rfl rfl ha hl
 generalize min (beg p.t p.anchor : Int) (beg p.t p.pl) = U at *
 generalize max (fin p.t p.anchor : Int) (fin p.t p.pl) = V at *
 have H := h
 have r0 := h.bg.c0
 have d0 := h.dk.c0
 have d1 := h.dk.c1
 have d2 := h.dk.c2
 have d3 := h.dk.c3
 rw [hm] at d3
 have hld := h.dk.lt
 have hlr := h.bg.lt
 clear h hm
 have l1 : r < w.heap.size + 1 := by omega
 have l2 : d < w.heap.size + 1 := by omega
 go_enter func313, ntmps313
 have g0 : ((w.alloc (.cells #[.pointer (some ⟨r, 0, none⟩)] 81)).alloc (.cells #[.int .i64 0, .int .i64 0, .bool false] 186)).cell? ⟨w.heap.size, 0, none⟩ = some (.pointer (some ⟨r, 0, none⟩)) := by simp
 go_wp2_with fail
 go_region_held3 (fun ww => ww.cell? ⟨w.heap.size, 0, none⟩ = some (.pointer (some ⟨r, 0, none⟩)) ∧ ww.cell? ⟨r, 0, none⟩ = some (.pointer (some ⟨d, 0, none⟩)) ∧ ww.cell? ⟨d, 0, none⟩ = some (.string p.t) ∧ ww.cell? ⟨d, 1, none⟩ = some (.int .i64 p.pl) ∧ ww.cell? ⟨d, 2, none⟩ = some (.int .i64 p.anchor)) (exact qK) ((go_at_call 182; refine Calls.mono (HLs.out _) ?_; rintro r4 w4 ⟨rfl, h4⟩; have hz4 := h4.size; (try simp at hz4); (try have ⟨hl4_0, hk4_0⟩ := qL d w4.heap.size); (try have ⟨hl4_1, hk4_1⟩ := qL r w4.heap.size); (try have ⟨hl4_2, hk4_2⟩ := qL w.heap.size w4.heap.size); obtain ⟨hc4, hf4⟩ := bcell h4; have hb4_0 := fun o => hc4 (w.heap.size + 1) o qO; have fb4_0 := fun o => hf4 (w.heap.size + 1) o qO; (try have hg4_0 : w.heap.size + 1 < w4.heap.size := qo); clear hc4 hf4))
 go_wp2
 exact qV (.agg #[.int .i64 U, .int .i64 V, .bool true]) (by simp [results, results313, go_sem, hb4_0]) rfl
