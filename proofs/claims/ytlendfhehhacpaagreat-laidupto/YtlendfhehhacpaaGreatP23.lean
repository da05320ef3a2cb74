/- A part. -/
import Derived.Test.YtlendfhehhacpaaGreatP16
import Derived.Shelf.Abstract
import Derived.Test.YtlendfhehhacpaaGreatP17
import Derived.Test.YtlendfhehhacpaaGreatP15
set_option linter.unusedVariables false
set_option linter.unusedSimpArgs false
set_option maxRecDepth 100000
set_option maxHeartbeats 8000000
namespace Go.Proofs.YtlendfhehhacpaaGreat
open Go.RowKit
def casS (F : UInt8 → UInt8) (s : ByteArray) (i j : Nat) : ByteArray := s.extract 0 i ++ ⟨((s.extract i j).data.toList.map F).toArray⟩ ++ s.extract j s.size
theorem casS_size {F : UInt8 → UInt8} {s : ByteArray} {i j : Nat} (h : i ≤ j) (hj : j ≤ s.size) : (casS F s i j).size = s.size := by
 unfold casS
 have h1 : (⟨((s.extract i j).data.toList.map F).toArray⟩ : ByteArray).size = j - i := by
  show ((s.extract i j).data.toList.map F).toArray.size = _
  have : (s.extract i j).size = j - i := by rw [ByteArray.size_extract]; omega
  rw [List.size_toArray, List.length_map, Array.length_toList]
  exact this
 rw [ByteArray.size_append, ByteArray.size_append, h1, ByteArray.size_extract, ByteArray.size_extract]
 omega
theorem qt25 {P : Prop} (h : P := by
  generalize s.extract i j = O at *
  clear HW hms hos
  go_enter Tryz.func174, Tryz.ntmps174
  have g0 : (w.alloc (.cells #[.int .i64 i, .int .i64 j, .bool l] 186)).cell? ⟨w.heap.size, 0, none⟩ = some (.int .i64 i) := by simp
  have g1 : (w.alloc (.cells #[.int .i64 i, .int .i64 j, .bool l] 186)).cell? ⟨w.heap.size, 1, none⟩ = some (.int .i64 j) := by simp
  have g2 : (w.alloc (.cells #[.int .i64 i, .int .i64 j, .bool l] 186)).cell? ⟨w.heap.size, 2, none⟩ = some (.bool l) := by simp
  go_wp2_with fail
  go_region_held3 (fun ww => ww.cell? ⟨w.heap.size, 0, none⟩ = some (.int .i64 i) ∧ ww.cell? ⟨w.heap.size, 1, none⟩ = some (.int .i64 j) ∧ ww.cell? ⟨w.heap.size, 2, none⟩ = some (.bool l)) (exact qK) (first | (go_at_call 87; refine Calls.mono (HO.out _) ?_; rintro r1 w1 ⟨rfl, h1⟩; have hz1 := h1.size; (try simp at hz1); (try have ⟨hl1_0, hk1_0⟩ := qL w.heap.size w1.heap.size)) | (go_at_call 193; refine Calls.mono (HE.out _) ?_; rintro r2 w2 ⟨rfl, h2⟩; have hz2 := h2.size; (try simp at hz2); (try have ⟨hl2_0, hk2_0⟩ := qL w.heap.size w2.heap.size)) | (go_at_call 192; refine Calls.mono (HW1.out _) ?_; rintro r3 w3 ⟨rfl, h3⟩; have hz3 := h3.size; (try simp at hz3); (try have ⟨hl3_0, hk3_0⟩ := qL w.heap.size w3.heap.size)) | (go_at_call 221; refine Calls.mono (HB.out _) ?_; rintro r4 w4 ⟨rfl, h4⟩; have hz4 := h4.size; (try simp at hz4); (try have ⟨hl4_0, hk4_0⟩ := qL w.heap.size w4.heap.size)))
  go_wp2
  exact qV (.tuple #[.string X, .int .i64 q]) (by simp [results, Tryz.results174, go_sem]) rfl
 ) : P := h
theorem vDo_case (v : Int) (s : ByteArray) (i j : Nat) (p q : Int) (l : Bool) (w : World) (hs : s.size ≤ 1000) (h : i ≤ j) (hj : j ≤ s.size) (hv : v = 117 ∨ v = 85)
  (HB : qH 221 #[.string s, .agg #[.int .i64 i, .int .i64 j, .bool l], .int .i64 p] (.int .i64 q)) :
  qC 174 #[.int .u8 v, .string s, .agg #[.int .i64 i, .int .i64 j, .bool l], .int .i64 p] w (.tuple #[.string (casS (if v = 117 then smallU else greatU) s i j), .int .i64 q]) := by
 have HO : qH 87 #[.string s, .agg #[.int .i64 (i), .int .i64 (j)]] (.string (s.extract i j)) := fun ww => tOf_any s i j i j ww hs rfl rfl h hj
 have hos : (s.extract i j).size ≤ 1000 := by rw [ByteArray.size_extract]; omega
 have hms : ∀ F : UInt8 → UInt8, (⟨((s.extract i j).data.toList.map F).toArray⟩ : ByteArray).size ≤ 1000 := by
  intro F
  show ((s.extract i j).data.toList.map F).toArray.size ≤ 1000
  rw [List.size_toArray, List.length_map, Array.length_toList]
  exact hos
 have HW : ∀ F : UInt8 → UInt8, qH 192 #[.string s, .agg #[.int .i64 (i), .int .i64 (j)], .string ⟨((s.extract i j).data.toList.map F).toArray⟩] (.string (casS F s i j)) := fun F ww => tWith_any s _ i j i j ww hs (by have := hms F; omega) rfl rfl h hj
 rcases hv with hv | hv
 ·subst hv
  rw [if_pos rfl]
  have HE : qH 193 #[.string (s.extract i j), .func (.func 220) #[] #[]] (.string ⟨((s.extract i j).data.toList.map smallU).toArray⟩) := fun ww => tEach _ _ smallU ww hos (enters_of Tryz.func220 qk rfl) (fun c w2 => tSmall c w2)
  have HW1 := HW smallU
  generalize casS smallU s i j = X at *
  generalize (⟨((s.extract i j).data.toList.map smallU).toArray⟩ : ByteArray) = A at *
  exact qt25
 ·subst hv
  rw [if_neg qd]
  have HE : qH 193 #[.string (s.extract i j), .func (.func 222) #[] #[]] (.string ⟨((s.extract i j).data.toList.map greatU).toArray⟩) := fun ww => tEach _ _ greatU ww hos (enters_of Tryz.func222 qk rfl) (fun c w2 => tGreat c w2)
  have HW1 := HW greatU
  generalize casS greatU s i j = X at *
  generalize (⟨((s.extract i j).data.toList.map greatU).toArray⟩ : ByteArray) = A at *
  exact qt25
theorem hOf (t : ByteArray) (w : World) :
  qC 40 #[.string t] w (.agg #[.string t, .slice none 0 0, .slice none 0 0]) := by
 go_enter Tryz.func40, Tryz.ntmps40
 go_wp2
 exact qV (.agg #[.string t, .slice none 0 0, .slice none 0 0]) (by simp [results, Tryz.results40, go_sem]) rfl
def newPg (t : ByteArray) (m : Nat) : Pg := ⟨t, 0, 0, 0, .map (some m), t, .slice none 0 0, .slice none 0 0, 0, 0, 0, 0, 0, 0, 0⟩
theorem bNew (t : ByteArray) (w : World) :
  Calls Tryz.prog 33 #[.string t] w fun e w' => ∃ b r d m : Nat, e = .returned (.pointer (some ⟨b, 0, none⟩)) ∧ NbAt w' b r d (newPg t m) (.slice none 0 0) 0 ⟨#[]⟩ ∧ w'.heap[m]? = some (.map #[] 0) ∧
   w.heap.size ≤ m ∧ w.heap.size ≤ b ∧ w.heap.size ≤ r ∧ w.heap.size ≤ d ∧ m ≠ b ∧ m ≠ r ∧ m ≠ d ∧ Below w.heap.size w w' := by
 have HO : qH 40 #[.string t] (.agg #[.string t, .slice none 0 0, .slice none 0 0]) := fun ww => hOf t ww
 have hmm := @run_makeMap Tryz.prog
 go_enter Tryz.func33, Tryz.ntmps33
 go_wp2_with fail
 refine Calls.mono (HO.out _) ?_
 rintro e w1 ⟨rfl, h1⟩
 have hz1 := h1.size
 simp at hz1
 have hmp : w1.heap[w.heap.size]? = some (.map #[] 0) := by
  rw [h1.block w.heap.size qi]
  exact heap_alloc_new w _
 go_wp2_with fail
 go_ret
 refine ⟨w1.heap.size + 1 + 1, w1.heap.size + 1, w1.heap.size, w.heap.size, rfl, ⟨?_, ⟨?_, ?_, by omega⟩, ⟨_, World.ownsRow_nil _ _ _ _⟩, by omega, by omega, by simp [Value.ownBlock], by simp [Value.ownBlock], by simp [Value.ownBlock]⟩, ?_, by omega, by omega, by omega, by omega, by omega, by omega, by omega, ?_⟩
 ·constructor <;> first | (intro o; simp; done) | (simp [go_sem]; done) | (simp [go_sem]; rfl) | (simp; omega) | rfl
 ·constructor <;> first | (intro o; simp [newPg]; done) | (simp [go_sem, newPg]; done) | (simp [go_sem, newPg]; rfl) | (simp; omega) | rfl
 ·constructor <;> first | (intro o; simp [newPg]; done) | (simp [go_sem, newPg]; done) | (simp [go_sem, newPg]; rfl) | (simp; omega) | rfl
 ·rw [Below.heap_alloc _ _ _ qs, Below.heap_alloc _ _ _ qs, Below.heap_alloc _ _ _ qo]
  exact hmp
 ·repeat exact qB
theorem mMarked_lines (r d : Nat) (p : Pg) (w : World) (h : RdAt w r d p) (hs : p.t.size ≤ 1000) (hl : p.pl ≤ p.t.size) (ha : p.anchor ≤ p.t.size) (hm : p.mode = 3) :
  qC 313 #[.agg #[.pointer (some ⟨r, 0, none⟩)]] w (.agg #[.int .i64 (min (Nib.beg p.t p.anchor) (Nib.beg p.t p.pl)), .int .i64 (max (Nib.fin p.t p.anchor) (Nib.fin p.t p.pl)), .bool true]) := by
 have HLs : qH 182 #[.string p.t, .int .i64 (p.anchor : Nat), .int .i64 (p.pl : Nat)] (.agg #[.int .i64 (min (Nib.beg p.t p.anchor) (Nib.beg p.t p.pl)), .int .i64 (max (Nib.fin p.t p.anchor) (Nib.fin p.t p.pl)), .bool true]) := fun ww => tLines_any p.t _ _ p.anchor p.pl ww hs rfl rfl ha hl
 generalize min (Nib.beg p.t p.anchor : Int) (Nib.beg p.t p.pl) = U at *
 generalize max (Nib.fin p.t p.anchor : Int) (Nib.fin p.t p.pl) = V at *
 have H := h
 have r0 := h.bg.c0
 have d0 := h.dk.c0
 have d1 := h.dk.c1
 have d2 := h.dk.c2
 have d3 := h.dk.c3
 rw [hm] at d3
 have hld := h.dk.lt
 have hlr := h.bg.lt
 clear h hm
 have l1 : r < w.heap.size + 1 := by omega
 have l2 : d < w.heap.size + 1 := by omega
 go_enter Tryz.func313, Tryz.ntmps313
 have g0 : ((w.alloc (.cells #[.pointer (some ⟨r, 0, none⟩)] 81)).alloc (.cells #[.int .i64 0, .int .i64 0, .bool false] 186)).cell? ⟨w.heap.size, 0, none⟩ = some (.pointer (some ⟨r, 0, none⟩)) := by simp
 go_wp2_with fail
 go_region_held3 (fun ww => ww.cell? ⟨w.heap.size, 0, none⟩ = some (.pointer (some ⟨r, 0, none⟩)) ∧ ww.cell? ⟨r, 0, none⟩ = some (.pointer (some ⟨d, 0, none⟩)) ∧ ww.cell? ⟨d, 0, none⟩ = some (.string p.t) ∧ ww.cell? ⟨d, 1, none⟩ = some (.int .i64 p.pl) ∧ ww.cell? ⟨d, 2, none⟩ = some (.int .i64 p.anchor)) (exact qK) ((go_at_call 182; refine Calls.mono (HLs.out _) ?_; rintro r4 w4 ⟨rfl, h4⟩; have hz4 := h4.size; (try simp at hz4); (try have ⟨hl4_0, hk4_0⟩ := qL d w4.heap.size); (try have ⟨hl4_1, hk4_1⟩ := qL r w4.heap.size); (try have ⟨hl4_2, hk4_2⟩ := qL w.heap.size w4.heap.size); obtain ⟨hc4, hf4⟩ := bcell h4; have hb4_0 := fun o => hc4 (w.heap.size + 1) o qO; have fb4_0 := fun o => hf4 (w.heap.size + 1) o qO; (try have hg4_0 : w.heap.size + 1 < w4.heap.size := qo); clear hc4 hf4))
 go_wp2
 exact qV (.agg #[.int .i64 U, .int .i64 V, .bool true]) (by simp [results, Tryz.results313, go_sem, hb4_0]) rfl
theorem nNew_ok (t : ByteArray) (w : World) (h : t.size ≤ 1000) :
  Calls Tryz.prog 24 #[.string t] w fun e w' => ∃ q b r d m : Nat, e = .returned (.tuple #[.pointer (some ⟨q, 0, none⟩), .int .i64 0]) ∧ w'.cell? ⟨q, 0, none⟩ = some (.pointer (some ⟨b, 0, none⟩)) ∧ NbAt w' b r d (newPg t m) (.slice none 0 0) 0 ⟨#[]⟩ ∧ w'.heap[m]? = some (.map #[] 0) ∧
   w.heap.size ≤ q ∧ w.heap.size ≤ m ∧ w.heap.size ≤ b ∧ w.heap.size ≤ r ∧ w.heap.size ≤ d ∧ q ≠ b ∧ q ≠ r ∧ q ≠ d ∧ m ≠ b ∧ m ≠ r ∧ m ≠ d ∧ q < w'.heap.size ∧ Below w.heap.size w w' := by
 have h' : ¬ (1000 : Int) < (t.size : Int) := by omega
 have HN : Hid (∀ ww, Calls Tryz.prog 33 #[.string t] ww fun e w' => ∃ b r d m : Nat, e = .returned (.pointer (some ⟨b, 0, none⟩)) ∧ NbAt w' b r d (newPg t m) (.slice none 0 0) 0 ⟨#[]⟩ ∧ w'.heap[m]? = some (.map #[] 0) ∧
   ww.heap.size ≤ m ∧ ww.heap.size ≤ b ∧ ww.heap.size ≤ r ∧ ww.heap.size ≤ d ∧ m ≠ b ∧ m ≠ r ∧ m ≠ d ∧ Below ww.heap.size ww w') := fun ww => bNew t ww
 go_enter Tryz.func24, Tryz.ntmps24
 go_wp2_with fail
 refine Calls.mono (HN.out _) ?_
 rintro e w1 ⟨b, r, d, m, rfl, hN, hm, m1, m2, m3, m4, m5, m6, m7, h1⟩
 have HB : Hid (NbAt w1 b r d (newPg t m) (.slice none 0 0) 0 ⟨#[]⟩) := hN
 have HM : Hid (w1.heap[m]? = some (.map #[] 0)) := hm
 have bl := hN.bd.lt
 have rl := hN.rd.bg.lt
 have dl := hN.rd.dk.lt
 have ml : m < w1.heap.size := (Array.getElem?_eq_some_iff.1 hm).1
 have hz1 := h1.size
 clear hN hm
 go_wp2
 go_ret2
 refine ⟨w1.heap.size, b, r, d, m, rfl, by simp, ?_, ?_, by omega, m1, m2, m3, m4, by omega, by omega, by omega, m5, m6, m7, by simp, ?_⟩
 ·exact ⟨HB.out.bd.alloc _, HB.out.rd.alloc _, ⟨_, World.ownsRow_nil _ _ _ _⟩, HB.out.br, HB.out.bd', HB.out.tb, HB.out.tr, HB.out.td⟩
 ·rw [Below.heap_alloc _ _ _ ml]; exact HM.out
 ·repeat exact qB
theorem nType (q b : Nat) (s : ByteArray) (w : World) (N : Int) (Q : World → Prop) (hq : w.cell? ⟨q, 0, none⟩ = some (.pointer (some ⟨b, 0, none⟩)))
  (HT : Hid (∀ ww, ww = w → Calls Tryz.prog 30 #[.pointer (some ⟨b, 0, none⟩), .string s] ww fun e w' => e = .returned (.int .i64 N) ∧ Q w')) :
  Calls Tryz.prog 17 #[.pointer (some ⟨q, 0, none⟩), .string s] w fun e w' => e = .returned (.int .i64 N) ∧ Q w' := by
 go_enter Tryz.func17, Tryz.ntmps17
 go_wp2_with fail
 refine Calls.mono (HT.out _ rfl) ?_
 rintro e w1 ⟨rfl, h1⟩
 have HQ : Hid (Q w1) := h1
 clear h1
 go_wp2
 go_ret
 exact ⟨rfl, HQ.out⟩
theorem nState (q b r d : Nat) (tv : Value) (dg : ByteArray) (p : Pg) (w : World) (hq : w.cell? ⟨q, 0, none⟩ = some (.pointer (some ⟨b, 0, none⟩))) (hb : BdAt w b r d tv dg) (h : RdAt w r d p) :
  qC 18 #[.pointer (some ⟨q, 0, none⟩)] w (.agg #[.string p.t, .int .i64 (p.pl : Nat), .int .i64 (p.anchor : Nat), .int .i64 p.mode, .bool (waits p)]) := by
 have HS : Hid (∀ ww, BdAt ww b r d tv dg → RdAt ww r d p → qC 31 #[.pointer (some ⟨b, 0, none⟩)] ww (.agg #[.string p.t, .int .i64 (p.pl : Nat), .int .i64 (p.anchor : Nat), .int .i64 p.mode, .bool (waits p)])) := fun ww h1 h2 => bState b r d tv dg p ww h1 h2
 generalize waits p = N at *
 have ql : q < w.heap.size := World.block_lt_of_cell? w ⟨q, 0, none⟩ hq
 have l1 : q < w.heap.size + 1 := by omega
 go_enter Tryz.func18, Tryz.ntmps18
 go_wp2_with fail
 refine Calls.mono (HS.out _ (hb.alloc _) (h.alloc _)) ?_
 rintro e w1 ⟨rfl, h1⟩
 obtain ⟨hc1, hf1, hz1⟩ := qb h1
 simp at hz1
 have e0 := fun o => hc1 w.heap.size o qi
 have e1 := fun o => hf1 w.heap.size o qi
 clear hc1 hf1
 go_wp2
 exact qV (.agg #[.string p.t, .int .i64 (p.pl : Nat), .int .i64 (p.anchor : Nat), .int .i64 p.mode, .bool N]) (by simp [results, Tryz.results18, go_sem, e0]) rfl
abbrev GivesO (f : Nat) (args : Array Value) (s : ByteArray) : Prop :=
 ∃ (a b : Nat) (l is : Bool), a ≤ b ∧ b ≤ s.size ∧ ∀ ww, Calls Tryz.prog f args ww fun e w' => e = .returned (.tuple #[.agg #[.int .i64 a, .int .i64 b, .bool l], .bool is]) ∧ Below ww.heap.size ww w'
theorem oWordL (s : ByteArray) (p : Nat) (wh g : Bool) (hs : s.size ≤ 1000) (hp : p ≤ s.size) : ∃ (a b : Nat) (is : Bool), a ≤ b ∧ b ≤ s.size ∧ ∀ ww, qC 214 #[.agg #[.string s, .int .i64 p, .bool wh], .bool g] ww (.tuple #[.agg #[.int .i64 a, .int .i64 b, .bool false], .bool is]) := by
 obtain ⟨c, d, c1, c2, c3, HR1⟩ := tRun_ex s p g hs hp
 have HR1 : qH 256 #[.string s, .int .i64 p, .bool g] (.agg #[.int .i64 (c), .int .i64 (d)]) := HR1
 by_cases hcd : c = d
 ·subst hcd
  have HE : qH 185 #[.agg #[.int .i64 (c), .int .i64 (c)]] (.bool true) := fun ww => tEmpty_eq c ww
  refine ⟨0, 0, false, Nat.le_refl _, Nat.zero_le _, fun w => ?_⟩
  go_enter Tryz.func214, Tryz.ntmps214
  have G : Tri ((w.alloc (.cells #[.string s, .int .i64 p, .bool wh] 213)).alloc (.cells #[.int .i64 0, .int .i64 0, .bool false] 186)) w.heap.size s p wh := Tri.alloc (Tri.new _ _ _ _ _) _
  have Q : Tre ((w.alloc (.cells #[.string s, .int .i64 p, .bool wh] 213)).alloc (.cells #[.int .i64 0, .int .i64 0, .bool false] 186)) (w.heap.size + 1) 0 0 false := by have := Tre.new (w.alloc (.cells #[.string s, .int .i64 p, .bool wh] 213)) 0 0 false 186; simpa using this
  go_wp2_with fail
  refine (HR1.out _).mono ?_
  rintro r1 w1 ⟨rfl, h1⟩
  obtain ⟨hc1, hf1, hz1⟩ := qb h1
  (try simp at hz1)
  have G1 : Tri w1 (w.heap.size) (s) (p) (wh) := qTi
  have ⟨G1_0, G1_1, G1_2, G1_z, G1_l⟩ := G1
  have Q1 : Tre w1 (w.heap.size + 1) (0) (0) (false) := qTe
  have ⟨Q1_0, Q1_1, Q1_2, Q1_z, Q1_l⟩ := Q1
  clear hc1 hf1
  have E : Two (w1.alloc (.cells #[.int .i64 c, .int .i64 c] 128)) w1.heap.size c c := Two.new _ _ _ _
  go_wp2_with fail
  refine (HE.out _).mono ?_
  rintro r2 w2 ⟨rfl, h2⟩
  obtain ⟨hc2, hf2, hz2⟩ := qb h2
  (try simp at hz2)
  have G2 : Tri w2 (w.heap.size) (s) (p) (wh) := qTi
  have ⟨G2_0, G2_1, G2_2, G2_z, G2_l⟩ := G2
  have Q2 : Tre w2 (w.heap.size + 1) (0) (0) (false) := qTe
  have ⟨Q2_0, Q2_1, Q2_2, Q2_z, Q2_l⟩ := Q2
  have E2 : Two w2 (w1.heap.size) (c) (c) := qTw
  have ⟨E2_0, E2_1, E2_z, E2_l⟩ := E2
  clear hc2 hf2
  go_wp2
  exact qV (.tuple #[.agg #[.int .i64 0, .int .i64 0, .bool false], .bool false]) (by simp [results, Tryz.results214, go_sem, Q2_0, Q2_1, Q2_2, Q2_z, Q2_l]) rfl
 ·have HE : qH 185 #[.agg #[.int .i64 (c), .int .i64 (d)]] (.bool false) := fun ww => tEmpty_ne c d ww hcd
  cases wh with
  | false =>
   refine ⟨c, d, true, by omega, by omega, fun w => ?_⟩
   go_enter Tryz.func214, Tryz.ntmps214
   have G : Tri ((w.alloc (.cells #[.string s, .int .i64 p, .bool false] 213)).alloc (.cells #[.int .i64 0, .int .i64 0, .bool false] 186)) w.heap.size s p false := Tri.alloc (Tri.new _ _ _ _ _) _
   have Q : Tre ((w.alloc (.cells #[.string s, .int .i64 p, .bool false] 213)).alloc (.cells #[.int .i64 0, .int .i64 0, .bool false] 186)) (w.heap.size + 1) 0 0 false := by have := Tre.new (w.alloc (.cells #[.string s, .int .i64 p, .bool false] 213)) 0 0 false 186; simpa using this
   go_wp2_with fail
   refine (HR1.out _).mono ?_
   rintro r1 w1 ⟨rfl, h1⟩
   obtain ⟨hc1, hf1, hz1⟩ := qb h1
   (try simp at hz1)
   have G1 : Tri w1 (w.heap.size) (s) (p) (false) := qTi
   have ⟨G1_0, G1_1, G1_2, G1_z, G1_l⟩ := G1
   have Q1 : Tre w1 (w.heap.size + 1) (0) (0) (false) := qTe
   have ⟨Q1_0, Q1_1, Q1_2, Q1_z, Q1_l⟩ := Q1
   clear hc1 hf1
   have E : Two (w1.alloc (.cells #[.int .i64 c, .int .i64 d] 128)) w1.heap.size c d := Two.new _ _ _ _
   go_wp2_with fail
   refine (HE.out _).mono ?_
   rintro r2 w2 ⟨rfl, h2⟩
   obtain ⟨hc2, hf2, hz2⟩ := qb h2
   (try simp at hz2)
   have G2 : Tri w2 (w.heap.size) (s) (p) (false) := qTi
   have ⟨G2_0, G2_1, G2_2, G2_z, G2_l⟩ := G2
   have Q2 : Tre w2 (w.heap.size + 1) (0) (0) (false) := qTe
   have ⟨Q2_0, Q2_1, Q2_2, Q2_z, Q2_l⟩ := Q2
   have E2 : Two w2 (w1.heap.size) (c) (d) := qTw
   have ⟨E2_0, E2_1, E2_z, E2_l⟩ := E2
   clear hc2 hf2
   go_wp2
   exact qV (.tuple #[.agg #[.int .i64 c, .int .i64 d, .bool false], .bool true]) (by simp [results, Tryz.results214, go_sem, Q2_0, Q2_1, Q2_2, Q2_z, Q2_l]) rfl
  | true =>
   obtain ⟨B, HB⟩ := oBlanks_ex s p c d true qo c3
   cases B with
   | true =>
    have HB : qH 257 #[.agg #[.string s, .int .i64 p, .bool true], .agg #[.int .i64 (c), .int .i64 (d)]] (.bool true) := HB
    obtain ⟨a, b, is, k1, k2, HW⟩ := oBlanksW s p c d true g hs qo c3
    have HW : qH 258 #[.agg #[.string s, .int .i64 p, .bool true], .agg #[.int .i64 (c), .int .i64 (d)], .bool g] (.tuple #[.agg #[.int .i64 a, .int .i64 b, .bool false], .bool is]) := HW
    refine ⟨a, b, is, k1, k2, fun w => ?_⟩
    go_enter Tryz.func214, Tryz.ntmps214
    have G : Tri ((w.alloc (.cells #[.string s, .int .i64 p, .bool true] 213)).alloc (.cells #[.int .i64 0, .int .i64 0, .bool false] 186)) w.heap.size s p true := Tri.alloc (Tri.new _ _ _ _ _) _
    have Q : Tre ((w.alloc (.cells #[.string s, .int .i64 p, .bool true] 213)).alloc (.cells #[.int .i64 0, .int .i64 0, .bool false] 186)) (w.heap.size + 1) 0 0 false := by have := Tre.new (w.alloc (.cells #[.string s, .int .i64 p, .bool true] 213)) 0 0 false 186; simpa using this
    go_wp2_with fail
    refine (HR1.out _).mono ?_
    rintro r1 w1 ⟨rfl, h1⟩
    obtain ⟨hc1, hf1, hz1⟩ := qb h1
    (try simp at hz1)
    have G1 : Tri w1 (w.heap.size) (s) (p) (true) := qTi
    have ⟨G1_0, G1_1, G1_2, G1_z, G1_l⟩ := G1
    have Q1 : Tre w1 (w.heap.size + 1) (0) (0) (false) := qTe
    have ⟨Q1_0, Q1_1, Q1_2, Q1_z, Q1_l⟩ := Q1
    clear hc1 hf1
    have E : Two (w1.alloc (.cells #[.int .i64 c, .int .i64 d] 128)) w1.heap.size c d := Two.new _ _ _ _
    go_wp2_with fail
    refine (HE.out _).mono ?_
    rintro r2 w2 ⟨rfl, h2⟩
    obtain ⟨hc2, hf2, hz2⟩ := qb h2
    (try simp at hz2)
    have G2 : Tri w2 (w.heap.size) (s) (p) (true) := qTi
    have ⟨G2_0, G2_1, G2_2, G2_z, G2_l⟩ := G2
    have Q2 : Tre w2 (w.heap.size + 1) (0) (0) (false) := qTe
    have ⟨Q2_0, Q2_1, Q2_2, Q2_z, Q2_l⟩ := Q2
    have E2 : Two w2 (w1.heap.size) (c) (d) := qTw
    have ⟨E2_0, E2_1, E2_z, E2_l⟩ := E2
    clear hc2 hf2
    go_wp2_with fail
    refine (HB.out _).mono ?_
    rintro r3 w3 ⟨rfl, h3⟩
    obtain ⟨hc3, hf3, hz3⟩ := qb h3
    (try simp at hz3)
    have G3 : Tri w3 (w.heap.size) (s) (p) (true) := qTi
    have ⟨G3_0, G3_1, G3_2, G3_z, G3_l⟩ := G3
    have Q3 : Tre w3 (w.heap.size + 1) (0) (0) (false) := qTe
    have ⟨Q3_0, Q3_1, Q3_2, Q3_z, Q3_l⟩ := Q3
    have E3 : Two w3 (w1.heap.size) (c) (d) := qTw
    have ⟨E3_0, E3_1, E3_z, E3_l⟩ := E3
    clear hc3 hf3
    go_wp2_with fail
    refine (HW.out _).mono ?_
    rintro r4 w4 ⟨rfl, h4⟩
    obtain ⟨hc4, hf4, hz4⟩ := qb h4
    (try simp at hz4)
    have G4 : Tri w4 (w.heap.size) (s) (p) (true) := qTi
    have ⟨G4_0, G4_1, G4_2, G4_z, G4_l⟩ := G4
    have Q4 : Tre w4 (w.heap.size + 1) (0) (0) (false) := qTe
    have ⟨Q4_0, Q4_1, Q4_2, Q4_z, Q4_l⟩ := Q4
    have E4 : Two w4 (w1.heap.size) (c) (d) := qTw
    have ⟨E4_0, E4_1, E4_z, E4_l⟩ := E4
    clear hc4 hf4
    go_wp2
    exact qV (.tuple #[.agg #[.int .i64 a, .int .i64 b, .bool false], .bool is]) (by simp [results, Tryz.results214, go_sem, Q4_0, Q4_1, Q4_2, Q4_z, Q4_l]) rfl
   | false =>
    have HB : qH 257 #[.agg #[.string s, .int .i64 p, .bool true], .agg #[.int .i64 (c), .int .i64 (d)]] (.bool false) := HB
    obtain ⟨a, b, k1, k2, HW⟩ := oWordB s p c d true g hs qo c3
    have HW : qH 259 #[.agg #[.string s, .int .i64 p, .bool true], .agg #[.int .i64 (c), .int .i64 (d)], .bool g] (.agg #[.int .i64 (a), .int .i64 (b)]) := HW
    refine ⟨a, b, true, k1, k2, fun w => ?_⟩
    go_enter Tryz.func214, Tryz.ntmps214
    have G : Tri ((w.alloc (.cells #[.string s, .int .i64 p, .bool true] 213)).alloc (.cells #[.int .i64 0, .int .i64 0, .bool false] 186)) w.heap.size s p true := Tri.alloc (Tri.new _ _ _ _ _) _
    have Q : Tre ((w.alloc (.cells #[.string s, .int .i64 p, .bool true] 213)).alloc (.cells #[.int .i64 0, .int .i64 0, .bool false] 186)) (w.heap.size + 1) 0 0 false := by have := Tre.new (w.alloc (.cells #[.string s, .int .i64 p, .bool true] 213)) 0 0 false 186; simpa using this
    go_wp2_with fail
    refine (HR1.out _).mono ?_
    rintro r1 w1 ⟨rfl, h1⟩
    obtain ⟨hc1, hf1, hz1⟩ := qb h1
    (try simp at hz1)
    have G1 : Tri w1 (w.heap.size) (s) (p) (true) := qTi
    have ⟨G1_0, G1_1, G1_2, G1_z, G1_l⟩ := G1
    have Q1 : Tre w1 (w.heap.size + 1) (0) (0) (false) := qTe
    have ⟨Q1_0, Q1_1, Q1_2, Q1_z, Q1_l⟩ := Q1
    clear hc1 hf1
    have E : Two (w1.alloc (.cells #[.int .i64 c, .int .i64 d] 128)) w1.heap.size c d := Two.new _ _ _ _
    go_wp2_with fail
    refine (HE.out _).mono ?_
    rintro r2 w2 ⟨rfl, h2⟩
    obtain ⟨hc2, hf2, hz2⟩ := qb h2
    (try simp at hz2)
    have G2 : Tri w2 (w.heap.size) (s) (p) (true) := qTi
    have ⟨G2_0, G2_1, G2_2, G2_z, G2_l⟩ := G2
    have Q2 : Tre w2 (w.heap.size + 1) (0) (0) (false) := qTe
    have ⟨Q2_0, Q2_1, Q2_2, Q2_z, Q2_l⟩ := Q2
    have E2 : Two w2 (w1.heap.size) (c) (d) := qTw
    have ⟨E2_0, E2_1, E2_z, E2_l⟩ := E2
    clear hc2 hf2
    go_wp2_with fail
    refine (HB.out _).mono ?_
    rintro r3 w3 ⟨rfl, h3⟩
    obtain ⟨hc3, hf3, hz3⟩ := qb h3
    (try simp at hz3)
    have G3 : Tri w3 (w.heap.size) (s) (p) (true) := qTi
    have ⟨G3_0, G3_1, G3_2, G3_z, G3_l⟩ := G3
    have Q3 : Tre w3 (w.heap.size + 1) (0) (0) (false) := qTe
    have ⟨Q3_0, Q3_1, Q3_2, Q3_z, Q3_l⟩ := Q3
    have E3 : Two w3 (w1.heap.size) (c) (d) := qTw
    have ⟨E3_0, E3_1, E3_z, E3_l⟩ := E3
    clear hc3 hf3
    go_wp2_with fail
    refine (HW.out _).mono ?_
    rintro r4 w4 ⟨rfl, h4⟩
    obtain ⟨hc4, hf4, hz4⟩ := qb h4
    (try simp at hz4)
    have G4 : Tri w4 (w.heap.size) (s) (p) (true) := qTi
    have ⟨G4_0, G4_1, G4_2, G4_z, G4_l⟩ := G4
    have Q4 : Tre w4 (w.heap.size + 1) (0) (0) (false) := qTe
    have ⟨Q4_0, Q4_1, Q4_2, Q4_z, Q4_l⟩ := Q4
    have E4 : Two w4 (w1.heap.size) (c) (d) := qTw
    have ⟨E4_0, E4_1, E4_z, E4_l⟩ := E4
    clear hc4 hf4
    go_wp2
    exact qV (.tuple #[.agg #[.int .i64 a, .int .i64 b, .bool false], .bool true]) (by simp [results, Tryz.results214, go_sem, Q4_0, Q4_1, Q4_2, Q4_z, Q4_l]) rfl
theorem oWord (s : ByteArray) (p : Nat) (wh g : Bool) (hs : s.size ≤ 1000) (hp : p ≤ s.size) : GivesO 214 #[.agg #[.string s, .int .i64 p, .bool wh], .bool g] s := by
 obtain ⟨a, b, is, h1, h2, H⟩ := oWordL s p wh g hs hp
 exact ⟨a, b, false, is, h1, h2, H⟩
def qts (s : ByteArray) (key : Int) (p : Nat) : Nat → Nat → Nat → Bool → Option (Nat × Nat)
 | 0, _, _, _ => none
 | n + 1, k, f, o => if Nib.bt s k = key then (if o = true ∧ p ≤ k then some (f, k + 1) else qts s key p n (k + 1) k (!o)) else qts s key p n (k + 1) f o
theorem qts_le {s : ByteArray} {key : Int} {p : Nat} : ∀ (n k f : Nat) (o : Bool) (X : Nat × Nat), (o = true → f < k) → qts s key p n k f o = some X → X.1 + 1 < X.2 ∧ X.2 ≤ k + n := by
 intro n
 induction n with
 | zero => intro k f o X _ h; simp [qts] at h
 | succ n ih =>
  intro k f o X ho h
  simp only [qts] at h
  split at h
  ·split at h
   ·rename_i hc
    have := ho hc.1
    injection h with h
    subst h
    constructor <;> simp <;> omega
   ·have := ih (k + 1) k (!o) X (fun _ => by omega) h
    omega
  ·have := ih (k + 1) f o X (fun h => by have := ho h; omega) h
   omega
theorem oQuotes (s : ByteArray) (p : Nat) (key : Int) (wh : Bool) (hs : s.size ≤ 1000) (hp : p ≤ s.size) : GivesO 216 #[.agg #[.string s, .int .i64 p, .bool wh], .int .u8 key] s := by
 have HL : qH 195 #[.string s, .int .i64 p] (.agg #[.int .i64 (Nib.beg s p), .int .i64 (Nib.fin s p)]) := fun ww => tLine_any s p p ww hs rfl hp
 have h1 := Nib.beg_le s p
 have h2 := Nib.fin_ge s p
 have h3 := Nib.fin_le hp
 have hle := fun x => qts_le (s := s) (key := key) (p := p) (Nib.fin s p - Nib.beg s p) (Nib.beg s p) 0 false x (fun h => by cases h)
 obtain ⟨X, hX⟩ : ∃ X, qts s key p (Nib.fin s p - Nib.beg s p) (Nib.beg s p) 0 false = X := ⟨_, rfl⟩
 rw [hX] at hle
 have HX : Hid (qts s key p (Nib.fin s p - Nib.beg s p) (Nib.beg s p) 0 false = X) := hX
 clear hX
 obtain ⟨a, b, is, hab, hbs, hres⟩ : ∃ (a b : Nat) (is : Bool), a ≤ b ∧ b ≤ s.size ∧ ((X = none ∧ a = 0 ∧ b = 0 ∧ is = false) ∨ (∃ f k : Nat, X = some (f, k) ∧ is = true ∧ f + 2 ≤ k ∧ k ≤ s.size ∧ (if wh then (f : Int) else (f : Int) + 1) = (a : Int) ∧ (if wh then (k : Int) else (k : Int) - 1) = (b : Int))) := by
  cases X with
  | none => exact ⟨0, 0, false, Nat.le_refl _, Nat.zero_le _, Or.inl ⟨rfl, rfl, rfl, rfl⟩⟩
  | some x =>
   obtain ⟨f, k⟩ := x
   have h := hle (f, k) rfl
   simp only at h
   cases wh
   ·exact ⟨f + 1, k - 1, true, by omega, by omega, Or.inr ⟨f, k, rfl, rfl, by omega, by omega, by simp, by simp; omega⟩⟩
   ·exact ⟨f, k, true, by omega, by omega, Or.inr ⟨f, k, rfl, rfl, by omega, by omega, by simp, by simp⟩⟩
 have HP : Hid (∀ f k : Nat, f ≤ s.size → k ≤ s.size → ∀ ww, qC 261 #[.agg #[.string s, .int .i64 p, .bool wh], .agg #[.int .i64 (f), .int .i64 (k)]] ww (.agg #[.int .i64 (if wh then (f : Int) else (f : Int) + 1), .int .i64 (if wh then (k : Int) else (k : Int) - 1), .bool false])) := fun f k hf hk ww => oPair s p f k wh ww qo qo
 refine ⟨a, b, false, is, hab, hbs, fun w => ?_⟩
 clear hle
 generalize Nib.beg s p = LB at *
 generalize Nib.fin s p = LE at *
 go_enter Tryz.func216, Tryz.ntmps216
 have G : Tri ((w.alloc (.cells #[.string s, .int .i64 p, .bool wh] 213)).alloc (.cells #[.int .i64 0, .int .i64 0, .bool false] 186)) w.heap.size s p wh := Tri.alloc (Tri.new _ _ _ _ _) _
 have Q : Tre ((w.alloc (.cells #[.string s, .int .i64 p, .bool wh] 213)).alloc (.cells #[.int .i64 0, .int .i64 0, .bool false] 186)) (w.heap.size + 1) 0 0 false := by have := Tre.new (w.alloc (.cells #[.string s, .int .i64 p, .bool wh] 213)) 0 0 false 186; simpa using this
 go_wp2_with fail
 refine (HL.out _).mono ?_
 rintro r1 w1 ⟨rfl, h1⟩
 obtain ⟨hc1, hf1, hz1⟩ := qb h1
 (try simp at hz1)
 have G1 : Tri w1 (w.heap.size) (s) (p) (wh) := qTi
 have ⟨G1_0, G1_1, G1_2, G1_z, G1_l⟩ := G1
 have Q1 : Tre w1 (w.heap.size + 1) (0) (0) (false) := qTe
 have ⟨Q1_0, Q1_1, Q1_2, Q1_z, Q1_l⟩ := Q1
 clear hc1 hf1
 go_wp2
 have T : Two (w1.alloc (.cells #[.int .i64 LB, .int .i64 LE] 128)) w1.heap.size LB LE := Two.new _ _ _ _
 have G2 : Tri (w1.alloc (.cells #[.int .i64 LB, .int .i64 LE] 128)) w.heap.size s p wh := G1.alloc _
 have Q2 : Tre (w1.alloc (.cells #[.int .i64 LB, .int .i64 LE] 128)) (w.heap.size + 1) 0 0 false := Q1.alloc _
 have U : Below w.heap.size w (w1.alloc (.cells #[.int .i64 LB, .int .i64 LE] 128)) := by
  repeat exact qB
 clear G Q G1 Q1 G1_0 G1_1 G1_2 G1_z G1_l Q1_0 Q1_1 Q1_2 Q1_z Q1_l
 generalize (w1.alloc (.cells #[.int .i64 LB, .int .i64 LE] 128)) = W at *
 have g0 := G2.c0; have g1 := G2.c1; have g2 := G2.c2; have gl := G2.lt
 have t0 := T.c0; have t1 := T.c1; have tl := T.lt
 have ⟨q0, q1, q2, qz, ql⟩ := Q2
 go_loopw [7, 8, 9] (fun fv ov pv wr => ∃ (k f : Nat) (o : Bool), LB ≤ k ∧ k ≤ LE ∧ f ≤ k ∧ fv = .int .i64 f ∧ ov = .bool o ∧ pv = .int .i64 k ∧ Hid (qts s key p (LE - k) k f o = X) ∧ wr = W) (fun _ _ pv _ => LE - (intOf pv).toNat)
 case atStart => exact ⟨LB, 0, false, by omega, by omega, by omega, rfl, rfl, rfl, HX, rfl⟩
 case round =>
  clear HX
  obtain ⟨k, f, o, hk1, hk2, hf, rfl, rfl, rfl, HX, rfl⟩ := hrel
  have hwk : IntKind.i64.wrap ((k : Int) + 1) = (k : Int) + 1 := by rw [IntKind.wrap_i64]; omega
  by_cases hlt : k < LE
  ·have i1 : ((k : Nat) : Int) < ((LE : Nat) : Int) := by omega
   have hks : k < s.size := by omega
   have hks2 : ((k : Nat) : Int) < ((s.size : Nat) : Int) := by omega
   obtain ⟨n, hn⟩ : ∃ n, LE - k = n + 1 := ⟨LE - k - 1, by omega⟩
   have hn2 : LE - (k + 1) = n := by omega
   have hstep := HX.out
   rw [hn] at hstep
   simp only [qts] at hstep
   by_cases hkey : Nib.bt s k = key
   ·rw [if_pos hkey] at hstep
    have hcc : (((s[k]'hks).toNat : Int) == key) = true := by rw [← Nib.bt_in hks]; simp [hkey]
    have hcc2 : (((s[k]'hks).toNat : Int) != key) = false := by rw [← Nib.bt_in hks]; simp [hkey]
    have hcc3 : ((s[k]'hks).toNat : Int) = key := by rw [← Nib.bt_in hks]; exact hkey
    cases o with
    | true =>
     by_cases hpk : p ≤ k
     ·rw [if_pos ⟨rfl, hpk⟩] at hstep
      have hres2 : ∃ f' k' : Nat, X = some (f', k') ∧ is = true ∧ f' + 2 ≤ k' ∧ k' ≤ s.size ∧ (if wh then (f' : Int) else (f' : Int) + 1) = (a : Int) ∧ (if wh then (k' : Int) else (k' : Int) - 1) = (b : Int) := by
       rcases hres with ⟨h, _⟩ | h
       ·rw [← hstep] at h; cases h
       ·exact h
      obtain ⟨f', k', hx, his, _, _, ha, hb⟩ := hres2
      rw [← hstep] at hx
      injection hx with hx
      injection hx with hx1 hx2
      subst hx1 hx2 his
      have HPk := fun ww => HP.out f (k + 1) qo qo ww
      rw [ha, hb, show ((k + 1 : Nat) : Int) = (k : Int) + 1 by omega] at HPk
      have HPk : qH 261 #[.agg #[.string s, .int .i64 p, .bool wh], .agg #[.int .i64 (f), .int .i64 ((k : Int) + 1)]] (.agg #[.int .i64 a, .int .i64 b, .bool false]) := HPk
      have ipk : ((p : Nat) : Int) ≤ ((k : Nat) : Int) := by omega
      clear ha hb hstep HX hres HP
      go_wp2_with fail
      refine (HPk.out _).mono ?_
      rintro r5 w5 ⟨rfl, h5⟩
      obtain ⟨hc5, hf5, hz5⟩ := qb h5
      (try simp at hz5)
      have Q25 : Tre w5 (w.heap.size + 1) (0) (0) (false) := qTe
      have ⟨Q25_0, Q25_1, Q25_2, Q25_z, Q25_l⟩ := Q25
      clear hc5 hf5
      go_wp2
      (try rw [Exit.noGoto_ret])
      exact qV (.tuple #[.agg #[.int .i64 a, .int .i64 b, .bool false], .bool true]) (by simp [results, Tryz.results216, go_sem, Q25_0, Q25_1, Q25_2, Q25_z, Q25_l]) rfl
     ·rw [if_neg (fun h => hpk h.2)] at hstep
      have ipk : ¬ ((p : Nat) : Int) ≤ ((k : Nat) : Int) := by omega
      have HX2 : Hid (qts s key p (LE - (k + 1)) (k + 1) k false = X) := by rw [Hid, hn2]; exact hstep
      clear hstep HX hres HP
      go_wp2
      go_round
      case rel => exact ⟨k + 1, k, false, by omega, by omega, by omega, rfl, rfl, by go_num, HX2, by first | trivial | rfl⟩
      case measure => simp [intOf] <;> omega
    | false =>
     rw [if_neg (fun h => by cases h.1)] at hstep
     have HX2 : Hid (qts s key p (LE - (k + 1)) (k + 1) k true = X) := by rw [Hid, hn2]; exact hstep
     clear hstep HX hres HP
     go_wp2
     go_round
     case rel => exact ⟨k + 1, k, true, by omega, by omega, by omega, rfl, rfl, by go_num, HX2, by first | trivial | rfl⟩
     case measure => simp [intOf] <;> omega
   ·rw [if_neg hkey] at hstep
    have hcc : (((s[k]'hks).toNat : Int) == key) = false := by rw [← Nib.bt_in hks]; simp [hkey]
    have hcc2 : (((s[k]'hks).toNat : Int) != key) = true := by rw [← Nib.bt_in hks]; simp [hkey]
    have HX2 : Hid (qts s key p (LE - (k + 1)) (k + 1) f o = X) := by rw [Hid, hn2]; exact hstep
    clear hstep HX hres HP
    go_wp2
    go_round
    case rel => exact ⟨k + 1, f, o, by omega, by omega, by omega, rfl, rfl, by go_num, HX2, by first | trivial | rfl⟩
    case measure => simp [intOf] <;> omega
  ·have hns : ¬ ((k : Nat) : Int) < ((LE : Nat) : Int) := by omega
   have hX0 : X = none := by
    have := HX.out
    rw [show LE - k = 0 by omega] at this
    simp only [qts] at this
    exact this.symm
   have hr2 : a = 0 ∧ b = 0 ∧ is = false := by
    rcases hres with ⟨_, h1, h2, h3⟩ | ⟨f', k', h, _⟩
    ·exact ⟨h1, h2, h3⟩
    ·rw [hX0] at h; cases h
   obtain ⟨ha, hb, his⟩ := hr2
   subst ha hb his
   clear HX hres HP
   go_wp2
   exact qV (.tuple #[.agg #[.int .i64 0, .int .i64 0, .bool false], .bool false]) (by simp [results, Tryz.results216, go_sem, q0, q1, q2, qz, ql]) rfl
theorem mKeepI_grow (b r d : Nat) (tv : Value) (dg : ByteArray) (key : Int) (ao : Option Addr) (n cap : Nat) (xs : List Value) (w : World) (hb : BdAt w b r d tv dg) (htv : tv = .slice ao n cap) (hnone : ao = none → n = 0 ∧ cap = 0) (hsome : ∀ a, ao = some a → ∃ g, a = ⟨g, 0, none⟩)
  (ho : w.ownsRow 0 5 1 tv n xs) (hc : cap < n + 1) (hn : n ≤ 17592186044416) (hn0 : 0 < n) :
  Calls Tryz.prog 47 #[.pointer (some ⟨b, 1, none⟩), .int .u8 key, .int .i64 1] w fun e w' => e = .returned (.tuple #[]) ∧ ∃ tv', BdAt w' b r d tv' dg ∧ w'.ownsRow (w.heap.size + 1) 5 1 tv' (n + 1) (xs ++ [.int .u8 key]) ∧ Upd [b] w w' := by
 have HB := hb
 obtain ⟨b0, b1, b2, b3, b4, b5, bz, bl⟩ := hb
 subst htv
 obtain ⟨i0, hi, hz0, hz1, hz2⟩ := info_parts infoU8
 have HL : Hid (xs.length = n * 1) := ho.1
 have HO : Hid (∀ o : Obj, ∀ a, ao = some a → ∀ j u, xs[j]? = some u → (w.alloc o).cell? (a.add j) = some u) := by
  intro o a ha j u hu
  obtain ⟨g, rfl⟩ := hsome a ha
  subst ha
  exact (ho.alloc o).cells (g := g) rfl j u hu
 have HN : Hid (∀ j u, [Value.int .u8 key][j]? = some u → (w.alloc (.cells #[.int .u8 key] 5)).cell? ((⟨w.heap.size, 0, none⟩ : Addr).add j) = some u) := by
  intro j u hj
  match j, hj with
  | 0, hj => simp at hj; subst hj; simp [Addr.add]
 clear ho hsome
 have hn1 : (0 : Int) < ((n : Nat) : Int) := by omega
 exact qt29
theorem mKeepI_room (b r d g : Nat) (dg : ByteArray) (key : Int) (n cap : Nat) (xs : List Value) (w : World) (hb : BdAt w b r d (.slice (some ⟨g, 0, none⟩) n cap) dg) (hgb : g ≠ b)
  (ho : w.ownsRow 0 5 1 (.slice (some ⟨g, 0, none⟩) n cap) n xs) (hc : n + 1 ≤ cap) (hn : n ≤ 17592186044416) (hn0 : 0 < n) :
  Calls Tryz.prog 47 #[.pointer (some ⟨b, 1, none⟩), .int .u8 key, .int .i64 1] w fun e w' => e = .returned (.tuple #[]) ∧ BdAt w' b r d (.slice (some ⟨g, 0, none⟩) (n + 1) cap) dg ∧ w'.ownsRow 0 5 1 (.slice (some ⟨g, 0, none⟩) (n + 1) cap) (n + 1) (xs ++ [.int .u8 key]) ∧ Upd [b, g] w w' := by
 have HB := hb
 obtain ⟨b0, b1, b2, b3, b4, b5, bz, bl⟩ := hb
 obtain ⟨i0, hi, hz0, hz1, hz2⟩ := info_parts infoU8
 have HO : Hid (∀ o : Obj, (w.alloc o).ownsRow 0 5 1 (.slice (some ⟨g, 0, none⟩) n cap) n xs) := fun o => ho.alloc o
 have HN : Hid (∀ j u, [Value.int .u8 key][j]? = some u → (w.alloc (.cells #[.int .u8 key] 5)).cell? ((⟨w.heap.size, 0, none⟩ : Addr).add j) = some u) := by
  intro j u hj
  match j, hj with
  | 0, hj => simp at hj; subst hj; simp [Addr.add]
 clear ho
 have hn1 : (0 : Int) < ((n : Nat) : Int) := by omega
 exact qt33
theorem mKeep_ins (b r d : Nat) (tv : Value) (dg : ByteArray) (key : Int) (n : Nat) (xs : List Value) (w : World) (hb : BdAt w b r d tv dg) (hne : tv.ownBlock ≠ some b)
  (ho : w.ownsRow 0 5 1 tv n xs) (hn : n ≤ 17592186044416) (hn0 : 0 < n) :
  Calls Tryz.prog 47 #[.pointer (some ⟨b, 1, none⟩), .int .u8 key, .int .i64 1] w fun e w' => e = .returned (.tuple #[]) ∧ ∃ tv', BdAt w' b r d tv' dg ∧ w'.ownsRow 0 5 1 tv' (n + 1) (xs ++ [.int .u8 key]) ∧ (tv'.ownBlock = tv.ownBlock ∨ ∃ g, tv'.ownBlock = some g ∧ w.heap.size ≤ g) ∧ Upd (b :: own tv) w w' := by
 rcases ho.2 with ⟨rfl, rfl⟩ | ⟨g, cap, cur, rfl, h1, h2, h3, h4⟩
 ·omega
 ·by_cases hc : n + 1 ≤ cap
  ·have hgb : g ≠ b := fun e => hne (by rw [e]; rfl)
   refine Calls.mono (mKeepI_room b r d g dg key n cap xs w hb hgb ho hc hn hn0) ?_
   rintro e w' ⟨rfl, hB, hO, hU⟩
   exact ⟨rfl, _, hB, hO, Or.inl rfl, hU.mono (by simp [own, Value.ownBlock])⟩
  ·refine Calls.mono (mKeepI_grow b r d _ dg key (some ⟨g, 0, none⟩) n cap xs w hb rfl (fun h => by cases h) (fun a h => ⟨g, by simpa using h.symm⟩) ho qo hn hn0) ?_
   rintro e w' ⟨rfl, tv', hB, hO, hU⟩
   obtain ⟨g', cp, rfl, hg⟩ := owned_some hO qo
   exact ⟨rfl, _, hB, ownsRow_base hO (Nat.zero_le _), Or.inr ⟨g', rfl, by omega⟩, hU.mono qi⟩
theorem mKeep_insNo (b r d : Nat) (a : Option Addr) (cap : Nat) (dg : ByteArray) (key : Int) (w : World) (hb : BdAt w b r d (.slice a 0 cap) dg) :
  qC 47 #[.pointer (some ⟨b, 1, none⟩), .int .u8 key, .int .i64 1] w (.tuple #[]) := by
 obtain ⟨b0, b1, b2, b3, b4, b5, bz, bl⟩ := hb
 go_enter Tryz.func47, Tryz.ntmps47
 go_wp2
 go_end0
 exact ⟨rfl, Below.refl _ _⟩
theorem mEnd_no (b r d : Nat) (a : Option Addr) (cap : Nat) (dg : ByteArray) (O : Int) (w : World) (hb : BdAt w b r d (.slice a 0 cap) dg) :
  Calls Tryz.prog 48 #[.pointer (some ⟨b, 1, none⟩), .int .i64 O] w fun e w' => e = .returned (.tuple #[]) ∧ BdAt w' b r d (.slice none 0 0) dg ∧ Upd [b] w w' := by
 by_cases hO : O = 2
 ·have HS := hb.set_tv (.slice none 0 0)
  obtain ⟨b0, b1, b2, b3, b4, b5, bz, bl⟩ := hb
  subst hO
  go_enter Tryz.func48, Tryz.ntmps48
  go_wp2
  go_end0
  refine ⟨rfl, HS, ?_⟩
  repeat exact qU
 ·exact mEnd b r d _ dg O w hb hO
end Go.Proofs.YtlendfhehhacpaaGreat
