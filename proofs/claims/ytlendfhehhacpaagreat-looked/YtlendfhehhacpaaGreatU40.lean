/- A part. -/
import Derived.Test.YtlendfhehhacpaaGreatU34
import Derived.Laws.BytesArg
set_option linter.unusedVariables false
set_option linter.unusedSimpArgs false
set_option maxRecDepth 100000
set_option maxHeartbeats 8000000
namespace Go.Proofs.YtlendfhehhacpaaGreat
open Go.RowKit Nib Tryz
theorem mEnd_did (b r d g n cap : Nat) (ns : List Int) (dg : ByteArray) (w : World) (hb : BdAt w b r d (.slice (some ⟨g, 0, none⟩) n cap) dg) (ho : w.ownsRow 0 5 1 (.slice (some ⟨g, 0, none⟩) n cap) n (ns.map (Value.int .u8))) (hn0 : 0 < n) (hl : ns.length = n) :
  Calls Tryz.prog 48 #[.pointer (some ⟨b, 1, none⟩), .int .i64 2] w fun e w' => e = .returned (.tuple #[]) ∧ BdAt w' b r d (.slice none 0 0) (strOfNums ns) ∧ Upd [b] w w' := by
 have HS := (hb.set_dg (strOfNums ns)).set_tv (.slice none 0 0)
 have hcv : (convert 48 9 (.slice (some ⟨g, 0, none⟩) n cap)).run Tryz.prog w = .ok (.string (strOfNums ns)) w := by
  refine run_convert_bytes_arg w 48 5 underlying48 underlying5 g 0 n cap ns hl ?_ 9 underlying9
  intro i hi
  have hx := ho.cells (g := g) rfl i (.int .u8 (ns.getD i 0)) (by
   rw [List.getElem?_map]
   rw [List.getElem?_eq_getElem qo]
   simp [List.getD_eq_getElem?_getD, List.getElem?_eq_getElem (show i < ns.length by omega)])
  have ha : (⟨g, 0, none⟩ : Addr).add i = ⟨g, 0 + i, none⟩ := by unfold Addr.add; split <;> simp_all
  rw [ha] at hx
  exact hx
 obtain ⟨b0, b1, b2, b3, b4, b5, bz, bl⟩ := hb
 have hn1 : (0 : Int) < ((n : Nat) : Int) := by omega
 generalize strOfNums ns = X at *
 clear ho
 go_enter func48, ntmps48
 go_wp2
 go_end0
 refine ⟨rfl, HS, ?_⟩
 repeat exact qU
theorem vDo_copy (s : ByteArray) (a b p r : Int) (l : Bool) (w : World)
  (HB : qH 221 #[.string s, .agg #[.int .i64 a, .int .i64 b, .bool l], .int .i64 p] (.int .i64 r)) :
  qC 174 #[.int .u8 121, .string s, .agg #[.int .i64 a, .int .i64 b, .bool l], .int .i64 p] w (.tuple #[.string s, .int .i64 r]) := by
 go_enter func174, ntmps174
 go_wp2_with fail
 refine (HB.out _).mono ?_
 rintro e w1 ⟨rfl, h1⟩
 obtain ⟨hc1, hf1, hz1⟩ := qb h1
 try simp at hz1
 go_wp2
 refine bodyPost_ret (v := .tuple #[.string s, .int .i64 r]) (by simp [results, results174, go_sem]) rfl ⟨rfl, ?_⟩
 exact qB
theorem vWithout_piece (s : ByteArray) (i j : Nat) (w : World) (hs : s.size ≤ 1000) (h : i ≤ j) (hj : j ≤ s.size) :
  qC 218 #[.string s, .agg #[.int .i64 i, .int .i64 j, .bool false]] w (.tuple #[.string (s.extract 0 i ++ s.extract j s.size), .int .i64 i]) := by
 have HW : qH 192 #[.string s, .agg #[.int .i64 (i), .int .i64 (j)], .string ⟨#[]⟩] (.string (s.extract 0 i ++ s.extract j s.size)) := by
  intro ww
  have := tWith_any s ⟨#[]⟩ i j i j ww hs qd rfl rfl h hj
  rw [show s.extract 0 i ++ (⟨#[]⟩ : ByteArray) = s.extract 0 i from ByteArray.append_empty] at this
  exact this
 generalize s.extract 0 i ++ s.extract j s.size = X at *
 go_enter func218, ntmps218
 go_wp2_with fail
 go_wp2_with fail
 go_region_held3 (fun ww => ww.cell? ⟨w.heap.size, 0, none⟩ = some (.int .i64 i) ∧ ww.cell? ⟨w.heap.size, 1, none⟩ = some (.int .i64 j)) ((refine ⟨?_, ?_⟩ <;> go_simp)) ((go_at_call 192; refine (HW.out _).mono ?_; rintro r1 w1 ⟨rfl, h1⟩; obtain ⟨hc1, hf1, hz1⟩ := qb h1; (try simp at hz1); (try have ⟨hl1_0, hk1_0⟩ := qL w.heap.size w1.heap.size)))
 go_wp2
 refine bodyPost_ret (v := .tuple #[.string X, .int .i64 i]) (by simp [results, results218, go_sem]) rfl ⟨rfl, ?_⟩
 exact qB
theorem mTaken_piece (s : ByteArray) (i j : Nat) (l : Bool) (w : World) (hs : s.size ≤ 1000) (h : i ≤ j) (hj : j ≤ s.size) :
  qC 173 #[.string s, .agg #[.int .i64 i, .int .i64 j, .bool l]] w (.agg #[.string (s.extract i j ++ if l then ⟨#[10]⟩ else ⟨#[]⟩), .bool l]) := by
 have HO : qH 87 #[.string s, .agg #[.int .i64 (i), .int .i64 (j)]] (.string (s.extract i j)) := fun ww => tOf_any s i j i j ww hs rfl rfl h hj
 have hz : (s.extract i j).size ≤ 1000 := by rw [ByteArray.size_extract]; omega
 generalize s.extract i j = X at *
 cases l
 ·rw [if_neg qi, show X ++ (⟨#[]⟩ : ByteArray) = X from ByteArray.append_empty]
  go_enter func173, ntmps173
  go_wp2_with fail
  refine (HO.out _).mono ?_
  rintro e w1 ⟨rfl, h1⟩
  obtain ⟨hc1, hf1, hz1⟩ := qb h1
  try simp at hz1
  have l1 : w.heap.size + 1 < w1.heap.size := by omega
  have z0 : ∀ o, w1.frozen? ⟨w.heap.size + 1, o, none⟩ = false := by intro o; rw [hf1 _ _ qi]; first | (go_simp; done) | simp
  have c1 : w1.cell? ⟨w.heap.size + 1, 0, none⟩ = some (.string ⟨#[]⟩) := by rw [hc1 _ _ qi]; first | (go_simp; done) | simp
  have c2 : w1.cell? ⟨w.heap.size + 1, 1, none⟩ = some (.bool false) := by rw [hc1 _ _ qi]; first | (go_simp; done) | simp
  have c3 : w1.cell? ⟨w.heap.size, 2, none⟩ = some (.bool false) := by rw [hc1 _ _ qs]; first | (go_simp; done) | simp
  clear hc1 hf1
  go_wp2
  refine bodyPost_ret (v := .agg #[.string X, .bool false]) (by simp [results, results173, go_sem, c1, c2, z0, l1]) rfl ⟨rfl, ?_⟩
  exact qB
 ·rw [if_pos rfl]
  have f1 : ¬ 9223372036854775807 < X.size + 1 := by omega
  go_enter func173, ntmps173
  go_wp2_with fail
  refine (HO.out _).mono ?_
  rintro e w1 ⟨rfl, h1⟩
  obtain ⟨hc1, hf1, hz1⟩ := qb h1
  try simp at hz1
  have l1 : w.heap.size + 1 < w1.heap.size := by omega
  have z0 : ∀ o, w1.frozen? ⟨w.heap.size + 1, o, none⟩ = false := by intro o; rw [hf1 _ _ qi]; first | (go_simp; done) | simp
  have c1 : w1.cell? ⟨w.heap.size + 1, 0, none⟩ = some (.string ⟨#[]⟩) := by rw [hc1 _ _ qi]; first | (go_simp; done) | simp
  have c2 : w1.cell? ⟨w.heap.size + 1, 1, none⟩ = some (.bool false) := by rw [hc1 _ _ qi]; first | (go_simp; done) | simp
  have c3 : w1.cell? ⟨w.heap.size, 2, none⟩ = some (.bool true) := by rw [hc1 _ _ qs]; first | (go_simp; done) | simp
  clear hc1 hf1
  go_wp2
  refine bodyPost_ret (v := .agg #[.string (X ++ ⟨#[10]⟩), .bool true]) (by simp [results, results173, go_sem, c1, c2, z0, l1]) rfl ⟨rfl, ?_⟩
  exact qB
theorem hOf (t : ByteArray) (w : World) :
  qC 40 #[.string t] w (.agg #[.string t, .slice none 0 0, .slice none 0 0]) := by
 go_enter func40, ntmps40
 go_wp2
 exact qV (.agg #[.string t, .slice none 0 0, .slice none 0 0]) (by simp [results, results40, go_sem]) rfl
def newPg (t : ByteArray) (m : Nat) : Pg := ⟨t, 0, 0, 0, .map (some m), t, .slice none 0 0, .slice none 0 0, 0, 0, 0, 0, 0, 0, 0⟩
theorem bNew (t : ByteArray) (w : World) :
  Calls Tryz.prog 33 #[.string t] w fun e w' => ∃ b r d m : Nat, e = .returned (.pointer (some ⟨b, 0, none⟩)) ∧ NbAt w' b r d (newPg t m) (.slice none 0 0) 0 ⟨#[]⟩ ∧ w'.heap[m]? = some (.map #[] 0) ∧
   w.heap.size ≤ m ∧ w.heap.size ≤ b ∧ w.heap.size ≤ r ∧ w.heap.size ≤ d ∧ m ≠ b ∧ m ≠ r ∧ m ≠ d ∧ Below w.heap.size w w' := by
 have HO : qH 40 #[.string t] (.agg #[.string t, .slice none 0 0, .slice none 0 0]) := fun ww => hOf t ww
 have hmm := @run_makeMap Tryz.prog
 go_enter func33, ntmps33
 go_wp2_with fail
 refine Calls.mono (HO.out _) ?_
 rintro e w1 ⟨rfl, h1⟩
 have hz1 := h1.size
 simp at hz1
 have hmp : w1.heap[w.heap.size]? = some (.map #[] 0) := by
  rw [h1.block w.heap.size qi]
  exact heap_alloc_new w _
 go_wp2_with fail
 go_ret
 refine ⟨w1.heap.size + 1 + 1, w1.heap.size + 1, w1.heap.size, w.heap.size, rfl, ⟨?_, ⟨?_, ?_, by omega⟩, ⟨_, World.ownsRow_nil _ _ _ _⟩, by omega, by omega, by simp [Value.ownBlock], by simp [Value.ownBlock], by simp [Value.ownBlock]⟩, ?_, by omega, by omega, by omega, by omega, by omega, by omega, by omega, ?_⟩
 ·constructor <;> first | (intro o; simp; done) | (simp [go_sem]; done) | (simp [go_sem]; rfl) | (simp; omega) | rfl
 ·constructor <;> first | (intro o; simp [newPg]; done) | (simp [go_sem, newPg]; done) | (simp [go_sem, newPg]; rfl) | (simp; omega) | rfl
 ·constructor <;> first | (intro o; simp [newPg]; done) | (simp [go_sem, newPg]; done) | (simp [go_sem, newPg]; rfl) | (simp; omega) | rfl
 ·rw [Below.heap_alloc _ _ _ qs, Below.heap_alloc _ _ _ qs, Below.heap_alloc _ _ _ qo]
  exact hmp
 ·repeat exact qB
