/- A part. -/
import Derived.Test.YtlendfhehhacpaaGreatU36
import Derived.Test.YtlendfhehhacpaaGreatU34
set_option linter.unusedVariables false
set_option linter.unusedSimpArgs false
set_option maxRecDepth 100000
set_option maxHeartbeats 8000000
namespace Go.Proofs.YtlendfhehhacpaaGreat
open Go.RowKit Nib Tryz
theorem sGoFrom_any (s : ByteArray) (p n fr : Nat) (v c : Bool) (key ch : Int) (w : World) (hs : s.size ≤ 1000) (hp : p ≤ s.size) (hn : n ≤ 99) (hfr : fr ≤ 2) (hfr1 : 1 ≤ fr) (hk : isFnd key) :
  qC 204 #[.agg #[.int .u8 key, .int .u8 ch], .agg #[.string s, .int .i64 (p), .int .i64 (n), .bool v, .bool c], .int .i64 fr] w (.tuple #[.agg #[.int .i64 (wayX (byteWay s p key ch (max n 1) fr)), .int .i64 (wayK (byteWay s p key ch (max n 1) fr))], .bool (wayZ (byteWay s p key ch (max n 1) fr))]) := by
 rcases hk with h | h | h | h
 ·exact sGoFrom_up s p n fr v c key ch w hs hp hn hfr hfr1 (Or.inl h)
 ·exact sGoFrom_up s p n fr v c key ch w hs hp hn hfr hfr1 (Or.inr h)
 ·exact sGoFrom_down s p n fr v c key ch w hs hp hn hfr hfr1 (Or.inl h)
 ·exact sGoFrom_down s p n fr v c key ch w hs hp hn hfr hfr1 (Or.inr h)
theorem sFindGo_gen (s : ByteArray) (p n : Int) (v c : Bool) (key ch : Int) (w : World) (R : Int × Int × Bool)
  (HG : qH 204 #[.agg #[.int .u8 key, .int .u8 ch], .agg #[.string s, .int .i64 (p), .int .i64 (n), .bool v, .bool c], .int .i64 1] (.tuple #[.agg #[.int .i64 (wayX (R)), .int .i64 (wayK (R))], .bool (wayZ (R))])) :
  qC 167 #[.agg #[.int .u8 key, .int .u8 ch], .agg #[.string s, .int .i64 (p), .int .i64 (n), .bool v, .bool c]] w (.tuple #[.agg #[.int .i64 (wayX (R)), .int .i64 (wayK (R))], .bool (wayZ (R))]) := by
 go_enter func167, ntmps167
 have RB : Two (((w.alloc (.cells #[.int .u8 key, .int .u8 ch] 95)).alloc (.cells #[.string s, .int .i64 (p), .int .i64 (n), .bool v, .bool c] 206)).alloc (.cells #[.int .i64 0, .int .i64 0] 202)) (w.heap.size + 1 + 1) 0 0 := qN
 go_wp2_with fail
 refine (HG.out _).mono ?_
 rintro r1 w1 ⟨rfl, h1⟩
 obtain ⟨hc1, hf1, hz1⟩ := qb h1
 (try simp at hz1)
 have RB1 : Two w1 (w.heap.size + 1 + 1) (0) (0) := qTw
 have ⟨RB1_0, RB1_1, RB1_z, RB1_l⟩ := RB1
 clear hc1 hf1
 go_wp2
 all_goals
  first
   | (exact qV (.tuple #[.agg #[.int .i64 (wayX (R)), .int .i64 (wayK (R))], .bool (wayZ (R))]) (by simp [results, results167, go_sem, RB1_0, RB1_1, RB1_z, RB1_l]) rfl)
theorem qt11 {P : Prop} (h : P := by
  rw [hsh] at HT
  clear hsh
  go_enter func183, ntmps183
  have RB : Two (((w.alloc (.cells #[.int .u8 key, .int .u8 ch] 95)).alloc (.cells #[.string s, .int .i64 (p), .int .i64 (n), .bool v, .bool c] 206)).alloc (.cells #[.int .i64 0, .int .i64 0] 202)) (w.heap.size + 1 + 1) 0 0 := qN
  have F : Five (((w.alloc (.cells #[.int .u8 key, .int .u8 ch] 95)).alloc (.cells #[.string s, .int .i64 (p), .int .i64 (n), .bool v, .bool c] 206)).alloc (.cells #[.int .i64 0, .int .i64 0] 202)) (w.heap.size + 1) s p n v c := Five.alloc (by have := Five.new (w.alloc (.cells #[.int .u8 key, .int .u8 ch] 95)) s p n v c 206; simpa using this) _
  have f1 : (((w.alloc (.cells #[.int .u8 key, .int .u8 ch] 95)).alloc (.cells #[.string s, .int .i64 (p), .int .i64 (n), .bool v, .bool c] 206)).alloc (.cells #[.int .i64 0, .int .i64 0] 202)).cell? ⟨w.heap.size, 0, none⟩ = some (.int .u8 key) := memLater ((Below.refl _ _).alloc (Nat.le_refl _) _) qi
  have f2 : (((w.alloc (.cells #[.int .u8 key, .int .u8 ch] 95)).alloc (.cells #[.string s, .int .i64 (p), .int .i64 (n), .bool v, .bool c] 206)).alloc (.cells #[.int .i64 0, .int .i64 0] 202)).cell? ⟨w.heap.size, 1, none⟩ = some (.int .u8 ch) := memLater ((Below.refl _ _).alloc (Nat.le_refl _) _) qi
  go_wp2_with fail
  refine (HT.out _).mono ?_
  rintro r1 w1 ⟨rfl, h1⟩
  obtain ⟨hc1, hf1, hz1⟩ := qb h1
  (try simp at hz1)
  have F1 : Five w1 (w.heap.size + 1) s p n v c := qF
  have ⟨F1_0, F1_1, F1_2, F1_3, F1_4, F1_z, F1_l⟩ := F1
  have RB1 : Two w1 (w.heap.size + 1 + 1) (0) (0) := qTw
  have ⟨RB1_0, RB1_1, RB1_z, RB1_l⟩ := RB1
  have g1 : w1.cell? ⟨w.heap.size, 0, none⟩ = some (.int .u8 key) := memLater h1 f1
  have g2 : w1.cell? ⟨w.heap.size, 1, none⟩ = some (.int .u8 ch) := memLater h1 f2
  clear hc1 hf1
  go_wp2_with fail
  refine (HG.out _).mono ?_
  rintro r2 w2 ⟨rfl, h2⟩
  obtain ⟨hc2, hf2, hz2⟩ := qb h2
  (try simp at hz2)
  have RB2 : Two w2 (w.heap.size + 1 + 1) (0) (0) := qTw
  have ⟨RB2_0, RB2_1, RB2_z, RB2_l⟩ := RB2
  clear hc2 hf2
  go_wp2
  all_goals
   first
    | (exact qV (.tuple #[.agg #[.int .i64 (wayX (R)), .int .i64 (wayK (R))], .bool (wayZ (R))]) (by simp [results, results183, go_sem, RB2_0, RB2_1, RB2_z, RB2_l]) rfl)
 ) : P := h
theorem sFindAgain_gen (s : ByteArray) (p n : Int) (v c : Bool) (key ch : Int) (w : World) (R : Int × Int × Bool)
  (HG : qH 204 #[.agg #[.int .u8 key, .int .u8 ch], .agg #[.string s, .int .i64 (p), .int .i64 (n), .bool v, .bool c], .int .i64 (if shortOf key = true then 2 else 1)] (.tuple #[.agg #[.int .i64 (wayX (R)), .int .i64 (wayK (R))], .bool (wayZ (R))])) :
  qC 183 #[.agg #[.int .u8 key, .int .u8 ch], .agg #[.string s, .int .i64 (p), .int .i64 (n), .bool v, .bool c]] w (.tuple #[.agg #[.int .i64 (wayX (R)), .int .i64 (wayK (R))], .bool (wayZ (R))]) := by
 have HT : qH 224 #[.agg #[.int .u8 key, .int .u8 ch]] (.bool (shortOf key)) := fun ww => sShort_any key ch ww
 cases hsh : shortOf key with
 | true =>
  rw [hsh, if_pos rfl] at HG
  exact qt11
 | false =>
  rw [hsh, if_neg qi] at HG
  exact qt11
theorem qt1 {P : Prop} (h : P := by
  go_enter func169, ntmps169
  have RB : Two ((w.alloc (.cells #[.string s, .int .i64 (p), .int .i64 (n), .bool v, .bool c] 206)).alloc (.cells #[.int .i64 0, .int .i64 0] 202)) (w.heap.size + 1) 0 0 := qN
  go_wp2_with fail
  refine (HG.out _).mono ?_
  rintro r1 w1 ⟨rfl, h1⟩
  obtain ⟨hc1, hf1, hz1⟩ := qb h1
  (try simp at hz1)
  have RB1 : Two w1 (w.heap.size + 1) (0) (0) := qTw
  have ⟨RB1_0, RB1_1, RB1_z, RB1_l⟩ := RB1
  clear hc1 hf1
  go_wp2
  all_goals
   first
    | (exact qV (.tuple #[.agg #[.int .i64 (wayX (R)), .int .i64 (wayK (R))], .bool (wayZ (R))]) (by simp [results, results169, go_sem, RB1_0, RB1_1, RB1_z, RB1_l]) rfl)
 ) : P := h
theorem sGo_104 (s : ByteArray) (p n : Int) (v c : Bool) (w : World) (R : Int × Int × Bool)
  (HG : qH 205 #[.agg #[.string s, .int .i64 (p), .int .i64 (n), .bool v, .bool c], .int .u8 104] (.tuple #[.agg #[.int .i64 (wayX (R)), .int .i64 (wayK (R))], .bool (wayZ (R))])) :
  qC 169 #[.int .u8 104, .agg #[.string s, .int .i64 (p), .int .i64 (n), .bool v, .bool c]] w (.tuple #[.agg #[.int .i64 (wayX (R)), .int .i64 (wayK (R))], .bool (wayZ (R))]) := by
 exact qt1
theorem sGo_108 (s : ByteArray) (p n : Int) (v c : Bool) (w : World) (R : Int × Int × Bool)
  (HG : qH 205 #[.agg #[.string s, .int .i64 (p), .int .i64 (n), .bool v, .bool c], .int .u8 108] (.tuple #[.agg #[.int .i64 (wayX (R)), .int .i64 (wayK (R))], .bool (wayZ (R))])) :
  qC 169 #[.int .u8 108, .agg #[.string s, .int .i64 (p), .int .i64 (n), .bool v, .bool c]] w (.tuple #[.agg #[.int .i64 (wayX (R)), .int .i64 (wayK (R))], .bool (wayZ (R))]) := by
 exact qt1
theorem sGo_48 (s : ByteArray) (p n : Int) (v c : Bool) (w : World) (R : Int × Int × Bool)
  (HG : qH 205 #[.agg #[.string s, .int .i64 (p), .int .i64 (n), .bool v, .bool c], .int .u8 48] (.tuple #[.agg #[.int .i64 (wayX (R)), .int .i64 (wayK (R))], .bool (wayZ (R))])) :
  qC 169 #[.int .u8 48, .agg #[.string s, .int .i64 (p), .int .i64 (n), .bool v, .bool c]] w (.tuple #[.agg #[.int .i64 (wayX (R)), .int .i64 (wayK (R))], .bool (wayZ (R))]) := by
 exact qt1
theorem sGo_94 (s : ByteArray) (p n : Int) (v c : Bool) (w : World) (R : Int × Int × Bool)
  (HG : qH 205 #[.agg #[.string s, .int .i64 (p), .int .i64 (n), .bool v, .bool c], .int .u8 94] (.tuple #[.agg #[.int .i64 (wayX (R)), .int .i64 (wayK (R))], .bool (wayZ (R))])) :
  qC 169 #[.int .u8 94, .agg #[.string s, .int .i64 (p), .int .i64 (n), .bool v, .bool c]] w (.tuple #[.agg #[.int .i64 (wayX (R)), .int .i64 (wayK (R))], .bool (wayZ (R))]) := by
 exact qt1
theorem sGo_36 (s : ByteArray) (p n : Int) (v c : Bool) (w : World) (R : Int × Int × Bool)
  (HG : qH 205 #[.agg #[.string s, .int .i64 (p), .int .i64 (n), .bool v, .bool c], .int .u8 36] (.tuple #[.agg #[.int .i64 (wayX (R)), .int .i64 (wayK (R))], .bool (wayZ (R))])) :
  qC 169 #[.int .u8 36, .agg #[.string s, .int .i64 (p), .int .i64 (n), .bool v, .bool c]] w (.tuple #[.agg #[.int .i64 (wayX (R)), .int .i64 (wayK (R))], .bool (wayZ (R))]) := by
 exact qt1
theorem sGo_106 (s : ByteArray) (p n : Int) (v c : Bool) (w : World) (R : Int × Int × Bool)
  (HG : qH 206 #[.agg #[.string s, .int .i64 (p), .int .i64 (n), .bool v, .bool c], .int .u8 106] (.tuple #[.agg #[.int .i64 (wayX (R)), .int .i64 (wayK (R))], .bool (wayZ (R))])) :
  qC 169 #[.int .u8 106, .agg #[.string s, .int .i64 (p), .int .i64 (n), .bool v, .bool c]] w (.tuple #[.agg #[.int .i64 (wayX (R)), .int .i64 (wayK (R))], .bool (wayZ (R))]) := by
 exact qt1
theorem sGo_107 (s : ByteArray) (p n : Int) (v c : Bool) (w : World) (R : Int × Int × Bool)
  (HG : qH 206 #[.agg #[.string s, .int .i64 (p), .int .i64 (n), .bool v, .bool c], .int .u8 107] (.tuple #[.agg #[.int .i64 (wayX (R)), .int .i64 (wayK (R))], .bool (wayZ (R))])) :
  qC 169 #[.int .u8 107, .agg #[.string s, .int .i64 (p), .int .i64 (n), .bool v, .bool c]] w (.tuple #[.agg #[.int .i64 (wayX (R)), .int .i64 (wayK (R))], .bool (wayZ (R))]) := by
 exact qt1
theorem sGo_71 (s : ByteArray) (p n : Int) (v c : Bool) (w : World) (R : Int × Int × Bool)
  (HG : qH 207 #[.agg #[.string s, .int .i64 (p), .int .i64 (n), .bool v, .bool c], .int .u8 71] (.tuple #[.agg #[.int .i64 (wayX (R)), .int .i64 (wayK (R))], .bool (wayZ (R))])) :
  qC 169 #[.int .u8 71, .agg #[.string s, .int .i64 (p), .int .i64 (n), .bool v, .bool c]] w (.tuple #[.agg #[.int .i64 (wayX (R)), .int .i64 (wayK (R))], .bool (wayZ (R))]) := by
 exact qt1
theorem sGo_103 (s : ByteArray) (p n : Int) (v c : Bool) (w : World) (R : Int × Int × Bool)
  (HG : qH 207 #[.agg #[.string s, .int .i64 (p), .int .i64 (n), .bool v, .bool c], .int .u8 103] (.tuple #[.agg #[.int .i64 (wayX (R)), .int .i64 (wayK (R))], .bool (wayZ (R))])) :
  qC 169 #[.int .u8 103, .agg #[.string s, .int .i64 (p), .int .i64 (n), .bool v, .bool c]] w (.tuple #[.agg #[.int .i64 (wayX (R)), .int .i64 (wayK (R))], .bool (wayZ (R))]) := by
 exact qt1
theorem sGo_119 (s : ByteArray) (p n : Int) (v c : Bool) (w : World) (R : Int × Int × Bool)
  (HG : qH 208 #[.agg #[.string s, .int .i64 (p), .int .i64 (n), .bool v, .bool c], .bool false] (.tuple #[.agg #[.int .i64 (wayX (R)), .int .i64 (wayK (R))], .bool (wayZ (R))])) :
  qC 169 #[.int .u8 119, .agg #[.string s, .int .i64 (p), .int .i64 (n), .bool v, .bool c]] w (.tuple #[.agg #[.int .i64 (wayX (R)), .int .i64 (wayK (R))], .bool (wayZ (R))]) := by
 exact qt1
theorem sGo_87 (s : ByteArray) (p n : Int) (v c : Bool) (w : World) (R : Int × Int × Bool)
  (HG : qH 208 #[.agg #[.string s, .int .i64 (p), .int .i64 (n), .bool v, .bool c], .bool true] (.tuple #[.agg #[.int .i64 (wayX (R)), .int .i64 (wayK (R))], .bool (wayZ (R))])) :
  qC 169 #[.int .u8 87, .agg #[.string s, .int .i64 (p), .int .i64 (n), .bool v, .bool c]] w (.tuple #[.agg #[.int .i64 (wayX (R)), .int .i64 (wayK (R))], .bool (wayZ (R))]) := by
 exact qt1
theorem sGo_98 (s : ByteArray) (p n : Int) (v c : Bool) (w : World) (R : Int × Int × Bool)
  (HG : qH 209 #[.agg #[.string s, .int .i64 (p), .int .i64 (n), .bool v, .bool c], .bool false] (.tuple #[.agg #[.int .i64 (wayX (R)), .int .i64 (wayK (R))], .bool (wayZ (R))])) :
  qC 169 #[.int .u8 98, .agg #[.string s, .int .i64 (p), .int .i64 (n), .bool v, .bool c]] w (.tuple #[.agg #[.int .i64 (wayX (R)), .int .i64 (wayK (R))], .bool (wayZ (R))]) := by
 exact qt1
theorem sGo_66 (s : ByteArray) (p n : Int) (v c : Bool) (w : World) (R : Int × Int × Bool)
  (HG : qH 209 #[.agg #[.string s, .int .i64 (p), .int .i64 (n), .bool v, .bool c], .bool true] (.tuple #[.agg #[.int .i64 (wayX (R)), .int .i64 (wayK (R))], .bool (wayZ (R))])) :
  qC 169 #[.int .u8 66, .agg #[.string s, .int .i64 (p), .int .i64 (n), .bool v, .bool c]] w (.tuple #[.agg #[.int .i64 (wayX (R)), .int .i64 (wayK (R))], .bool (wayZ (R))]) := by
 exact qt1
theorem sGo_101 (s : ByteArray) (p n : Int) (v c : Bool) (w : World) (R : Int × Int × Bool)
  (HG : qH 210 #[.agg #[.string s, .int .i64 (p), .int .i64 (n), .bool v, .bool c], .bool false] (.tuple #[.agg #[.int .i64 (wayX (R)), .int .i64 (wayK (R))], .bool (wayZ (R))])) :
  qC 169 #[.int .u8 101, .agg #[.string s, .int .i64 (p), .int .i64 (n), .bool v, .bool c]] w (.tuple #[.agg #[.int .i64 (wayX (R)), .int .i64 (wayK (R))], .bool (wayZ (R))]) := by
 exact qt1
theorem sGo_69 (s : ByteArray) (p n : Int) (v c : Bool) (w : World) (R : Int × Int × Bool)
  (HG : qH 210 #[.agg #[.string s, .int .i64 (p), .int .i64 (n), .bool v, .bool c], .bool true] (.tuple #[.agg #[.int .i64 (wayX (R)), .int .i64 (wayK (R))], .bool (wayZ (R))])) :
  qC 169 #[.int .u8 69, .agg #[.string s, .int .i64 (p), .int .i64 (n), .bool v, .bool c]] w (.tuple #[.agg #[.int .i64 (wayX (R)), .int .i64 (wayK (R))], .bool (wayZ (R))]) := by
 exact qt1
theorem sGo_125 (s : ByteArray) (p n : Int) (v c : Bool) (w : World) (R : Int × Int × Bool)
  (HG : qH 211 #[.agg #[.string s, .int .i64 (p), .int .i64 (n), .bool v, .bool c], .int .i64 1] (.tuple #[.agg #[.int .i64 (wayX (R)), .int .i64 (wayK (R))], .bool (wayZ (R))])) :
  qC 169 #[.int .u8 125, .agg #[.string s, .int .i64 (p), .int .i64 (n), .bool v, .bool c]] w (.tuple #[.agg #[.int .i64 (wayX (R)), .int .i64 (wayK (R))], .bool (wayZ (R))]) := by
 exact qt1
theorem sGo_123 (s : ByteArray) (p n : Int) (v c : Bool) (w : World) (R : Int × Int × Bool)
  (HG : qH 211 #[.agg #[.string s, .int .i64 (p), .int .i64 (n), .bool v, .bool c], .int .i64 (-1)] (.tuple #[.agg #[.int .i64 (wayX (R)), .int .i64 (wayK (R))], .bool (wayZ (R))])) :
  qC 169 #[.int .u8 123, .agg #[.string s, .int .i64 (p), .int .i64 (n), .bool v, .bool c]] w (.tuple #[.agg #[.int .i64 (wayX (R)), .int .i64 (wayK (R))], .bool (wayZ (R))]) := by
 exact qt1
theorem sGo_37 (s : ByteArray) (p n : Int) (v c : Bool) (w : World) (R : Int × Int × Bool)
  (HG : qH 212 #[.agg #[.string s, .int .i64 (p), .int .i64 (n), .bool v, .bool c]] (.tuple #[.agg #[.int .i64 (wayX (R)), .int .i64 (wayK (R))], .bool (wayZ (R))])) :
  qC 169 #[.int .u8 37, .agg #[.string s, .int .i64 (p), .int .i64 (n), .bool v, .bool c]] w (.tuple #[.agg #[.int .i64 (wayX (R)), .int .i64 (wayK (R))], .bool (wayZ (R))]) := by
 exact qt1
def isPlainWay (key : Int) : Bool := key == 104 || key == 108 || key == 48 || key == 94 || key == 36 || key == 106 || key == 107 || key == 71 || key == 103 || key == 119 || key == 87 || key == 98 || key == 66 || key == 101 || key == 69 || key == 125 || key == 123 || key == 37
theorem sGo_none (s : ByteArray) (p n key : Int) (v c : Bool) (w : World) (hk : isPlainWay key = false) :
  qC 169 #[.int .u8 key, .agg #[.string s, .int .i64 (p), .int .i64 (n), .bool v, .bool c]] w (.tuple #[.agg #[.int .i64 (wayX (((0 : Int), (0 : Int), true))), .int .i64 (wayK (((0 : Int), (0 : Int), true)))], .bool (wayZ (((0 : Int), (0 : Int), true)))]) := by
 rw [wayX_t, wayK_t, wayZ_t]
 simp only [isPlainWay, Bool.or_eq_false_iff] at hk
 obtain ⟨⟨⟨⟨⟨⟨⟨⟨⟨⟨⟨⟨⟨⟨⟨⟨⟨k0, k1⟩, k2⟩, k3⟩, k4⟩, k5⟩, k6⟩, k7⟩, k8⟩, k9⟩, k10⟩, k11⟩, k12⟩, k13⟩, k14⟩, k15⟩, k16⟩, k17⟩ := hk
 go_enter func169, ntmps169
 go_wp2
 all_goals
  first
   | (exact qV (.tuple #[.agg #[.int .i64 0, .int .i64 0], .bool false]) (by simp [results, results169, go_sem]) rfl)
theorem sTurned_102 (ch : Int) (w : World) :
  qC 184 #[.agg #[.int .u8 102, .int .u8 ch]] w (.agg #[.int .u8 70, .int .u8 ch]) := by
 go_enter func184, ntmps184
 go_wp2
 all_goals
  first
   | (exact qV (.agg #[.int .u8 70, .int .u8 ch]) (by simp [results, results184, go_sem]) rfl)
theorem sTurned_70 (ch : Int) (w : World) :
  qC 184 #[.agg #[.int .u8 70, .int .u8 ch]] w (.agg #[.int .u8 102, .int .u8 ch]) := by
 go_enter func184, ntmps184
 go_wp2
 all_goals
  first
   | (exact qV (.agg #[.int .u8 102, .int .u8 ch]) (by simp [results, results184, go_sem]) rfl)
theorem sTurned_116 (ch : Int) (w : World) :
  qC 184 #[.agg #[.int .u8 116, .int .u8 ch]] w (.agg #[.int .u8 84, .int .u8 ch]) := by
 go_enter func184, ntmps184
 go_wp2
 all_goals
  first
   | (exact qV (.agg #[.int .u8 84, .int .u8 ch]) (by simp [results, results184, go_sem]) rfl)
theorem sTurned_84 (ch : Int) (w : World) :
  qC 184 #[.agg #[.int .u8 84, .int .u8 ch]] w (.agg #[.int .u8 116, .int .u8 ch]) := by
 go_enter func184, ntmps184
 go_wp2
 all_goals
  first
   | (exact qV (.agg #[.int .u8 116, .int .u8 ch]) (by simp [results, results184, go_sem]) rfl)
theorem sTurned_0 (ch : Int) (w : World) :
  qC 184 #[.agg #[.int .u8 0, .int .u8 ch]] w (.agg #[.int .u8 0, .int .u8 ch]) := by
 go_enter func184, ntmps184
 go_wp2
 all_goals
  first
   | (exact qV (.agg #[.int .u8 0, .int .u8 ch]) (by simp [results, results184, go_sem]) rfl)
theorem bType_inv (b : Nat) (s : ByteArray) (I : Nat → World → Prop) (w : World) (h : I 0 w) (hs : s.size ≤ 17592186044416)
  (HK : ∀ k, (hk : k < s.size) → ∀ ww, I k ww → Calls Tryz.prog 38 #[.pointer (some ⟨b, 0, none⟩), .int .u8 (s[k]'hk).toNat] ww fun e w' => ∃ O : Int, e = .returned (.int .i64 O) ∧ I (k + 1) w') :
  Calls Tryz.prog 30 #[.pointer (some ⟨b, 0, none⟩), .string s] w fun e w' => ∃ n : Nat, e = .returned (.int .i64 n) ∧ n ≤ s.size ∧ I s.size w' := by
 have HK' : Hid (∀ k, (hk : k < s.size) → ∀ ww, I k ww → Calls Tryz.prog 38 #[.pointer (some ⟨b, 0, none⟩), .int .u8 (s[k]'hk).toNat] ww fun e w' => ∃ O : Int, e = .returned (.int .i64 O) ∧ I (k + 1) w') := HK
 clear HK
 go_enter func30, ntmps30
 go_wp2
 go_loopw [5, 9] (fun m i wr => ∃ k n : Nat, k ≤ s.size ∧ i = .int .i64 k ∧ m = .int .i64 n ∧ n ≤ k ∧ I k wr) (fun _ i _ => s.size - (intOf i).toNat)
 case atStart => exact ⟨0, 0, Nat.zero_le _, rfl, rfl, Nat.le_refl _, h⟩
 case round =>
  obtain ⟨k, n, hk, rfl, rfl, hnk, h1⟩ := hrel
  by_cases hlt : k < s.size
  ·have HC := HK'.out k hlt _ h1
   go_wp2_with fail
   refine Calls.mono HC ?_
   rintro e w1 ⟨O, rfl, h2⟩
   clear h1 HC
   by_cases hO : O = 4
   ·have hO' : (O == 4) = true := by simp [hO]
    clear hO
    go_wp2
    go_roundw
    case rel => exact ⟨k + 1, n + 1, by omega, by go_num, by go_num, by omega, h2⟩
    case measure => simp [intOf] <;> omega
   ·have hO' : (O == 4) = false := by simp [hO]
    clear hO
    go_wp2
    go_roundw
    case rel => exact ⟨k + 1, n, by omega, by go_num, rfl, by omega, h2⟩
    case measure => simp [intOf] <;> omega
  ·have hkn : k = s.size := by omega
   subst hkn
   go_wp2
   go_ret
   exact ⟨n, rfl, hnk, h1⟩
theorem bType_none (b : Nat) (s : ByteArray) (I : Nat → World → Prop) (w : World) (h : I 0 w) (hs : s.size ≤ 17592186044416)
  (HK : ∀ k, (hk : k < s.size) → ∀ ww, I k ww → Calls Tryz.prog 38 #[.pointer (some ⟨b, 0, none⟩), .int .u8 (s[k]'hk).toNat] ww fun e w' => ∃ O : Int, e = .returned (.int .i64 O) ∧ ¬ O = 4 ∧ I (k + 1) w') :
  Calls Tryz.prog 30 #[.pointer (some ⟨b, 0, none⟩), .string s] w fun e w' => e = .returned (.int .i64 0) ∧ I s.size w' := by
 have HK' : Hid (∀ k, (hk : k < s.size) → ∀ ww, I k ww → Calls Tryz.prog 38 #[.pointer (some ⟨b, 0, none⟩), .int .u8 (s[k]'hk).toNat] ww fun e w' => ∃ O : Int, e = .returned (.int .i64 O) ∧ ¬ O = 4 ∧ I (k + 1) w') := HK
 clear HK
 go_enter func30, ntmps30
 go_wp2
 go_loopw [5, 9] (fun m i wr => ∃ k : Nat, k ≤ s.size ∧ i = .int .i64 k ∧ m = .int .i64 0 ∧ I k wr) (fun _ i _ => s.size - (intOf i).toNat)
 case atStart => exact ⟨0, Nat.zero_le _, rfl, rfl, h⟩
 case round =>
  obtain ⟨k, hk, rfl, rfl, h1⟩ := hrel
  by_cases hlt : k < s.size
  ·have HC := HK'.out k hlt _ h1
   go_wp2_with fail
   refine Calls.mono HC ?_
   rintro e w1 ⟨O, rfl, hO, h2⟩
   clear h1 HC
   have hO' : (O == 4) = false := by simp [hO]
   clear hO
   go_wp2
   go_roundw
   case rel => exact ⟨k + 1, by omega, by go_num, rfl, h2⟩
   case measure => simp [intOf] <;> omega
  ·have hkn : k = s.size := by omega
   subst hkn
   go_wp2
   go_ret
   exact ⟨rfl, h1⟩
