/- A part. -/
import Derived.Test.YtlendfhehhacpaaGreatQ52
import Derived.BigQuiet
set_option linter.unusedVariables false
set_option linter.unusedSimpArgs false
set_option maxRecDepth 100000
set_option maxHeartbeats 8000000
namespace Go.Proofs.YtlendfhehhacpaaGreat
open Go.RowKit Nib Tryz
theorem bytes_list (s : ByteArray) : (⟨s.data.toList.toArray⟩ : ByteArray) = s := by
 cases s
 simp
theorem runTypeB {ks : ByteArray} {s s2 : Sg} {n : Nat} (hR : RunP ks.data.toList s n s2) (hz : ks.size ≤ 17592186044416) {w0 : World} {Ow : List Nat} {b r d m q : Nat} (X : Fix w0 Ow b r d m) (ww : World) (hq : ww.cell? ⟨q, 0, none⟩ = some (.pointer (some ⟨b, 0, none⟩))) (M : MemS w0 Ow b r d m s ww) :
  Calls Tryz.prog 17 #[.pointer (some ⟨q, 0, none⟩), .string ks] ww fun e w' => e = .returned (.int .i64 (n : Nat)) ∧ MemS w0 Ow b r d m s2 w' := by
 have := runType hR (by rw [Array.length_toList]; exact hz) X ww hq M
 rw [bytes_list] at this
 exact this
theorem list_take (s : ByteArray) (k : Nat) : (s.extract 0 k).data.toList = s.data.toList.take k := by
 rw [ByteArray.data_extract, Array.toList_extract]
 simp [List.extract]
theorem list_drop (s : ByteArray) (k : Nat) (hk : k ≤ s.size) : (s.extract k s.size).data.toList = s.data.toList.drop k := by
 rw [ByteArray.data_extract, Array.toList_extract]
 have e : s.data.toList.length = s.size := by rw [Array.length_toList]; rfl
 simp only [List.extract_eq_take_drop]
 rw [List.take_of_length_le]
 rw [List.length_drop, e]
 omega
structure St5 (w : World) (b : Nat) (s : ByteArray) (p a m : Int) (l : Bool) : Prop where
 c0 : w.cell? ⟨b, 0, none⟩ = some (.string s)
 c1 : w.cell? ⟨b, 1, none⟩ = some (.int .i64 p)
 c2 : w.cell? ⟨b, 2, none⟩ = some (.int .i64 a)
 c3 : w.cell? ⟨b, 3, none⟩ = some (.int .i64 m)
 c4 : w.cell? ⟨b, 4, none⟩ = some (.bool l)
theorem St5.new (w : World) (s : ByteArray) (p a m : Int) (l : Bool) (t : Nat) : St5 (w.alloc (.cells #[.string s, .int .i64 p, .int .i64 a, .int .i64 m, .bool l] t)) w.heap.size s p a m l := ⟨by simp, by simp, by simp, by simp, by simp⟩
theorem St5.later {w w' : World} {b : Nat} {s : ByteArray} {p a m : Int} {l : Bool} (g : Below w.heap.size w w') (h : St5 w b s p a m l) : St5 w' b s p a m l := ⟨memLater g h.c0, memLater g h.c1, memLater g h.c2, memLater g h.c3, memLater g h.c4⟩
theorem St5.upd {S : List Nat} {w w' : World} {b : Nat} {s : ByteArray} {p a m : Int} {l : Bool} (h : St5 w b s p a m l) (hu : Upd S w w') (hn : b ∉ S) : St5 w' b s p a m l := ⟨hu.was h.c0 hn, hu.was h.c1 hn, hu.was h.c2 hn, hu.was h.c3 hn, hu.was h.c4 hn⟩
def Five5 (lo hi q b r d m : Nat) : Prop := (lo ≤ q ∧ lo ≤ b ∧ lo ≤ r ∧ lo ≤ d ∧ lo ≤ m) ∧ (q < hi ∧ b < hi ∧ r < hi ∧ d < hi ∧ m < hi)
theorem twoNew {w1 w2 w3 w4 : World} {q b r d m Q B R D M : Nat} {t : ByteArray} (N2 : New7 w1 w2 q b r d m t) (N3 : New7 w2 w3 Q B R D M t) (g3 : Below w2.heap.size w2 w3) (g4 : Below w3.heap.size w3 w4) :
  Five5 w1.heap.size w2.heap.size q b r d m ∧ Five5 w2.heap.size w4.heap.size Q B R D M ∧ ((q ≠ b ∧ q ≠ r ∧ q ≠ d ∧ q ≠ m) ∧ (Q ≠ B ∧ Q ≠ R ∧ Q ≠ D ∧ Q ≠ M)) ∧ w4.cell? ⟨q, 0, none⟩ = some (.pointer (some ⟨b, 0, none⟩)) ∧ w4.cell? ⟨Q, 0, none⟩ = some (.pointer (some ⟨B, 0, none⟩)) ∧ Fix w4 [] b r d m ∧ MemS w4 [] b r d m (sg0 t) w4 ∧ Fix w4 [] B R D M ∧ MemS w4 [] B R D M (sg0 t) w4 := by
 have A := (N2.below g3).below g4
 have C := N3.below g4
 obtain ⟨x1, x2⟩ := A.mems
 obtain ⟨y1, y2⟩ := C.mems
 have hq : q < w2.heap.size := World.block_lt_of_cell? w2 ⟨q, 0, none⟩ N2.cq
 have hQ : Q < w4.heap.size := World.block_lt_of_cell? w4 ⟨Q, 0, none⟩ C.cq
 exact ⟨⟨⟨N2.lq, N2.lb, N2.lr, N2.ld, N2.lm⟩, hq, N2.bd.lt, N2.rd.bg.lt, N2.rd.dk.lt, N2.rg.lt⟩, ⟨⟨N3.lq, N3.lb, N3.lr, N3.ld, N3.lm⟩, hQ, C.bd.lt, C.rd.bg.lt, C.rd.dk.lt, C.rg.lt⟩, ⟨⟨N2.qb, N2.qr, N2.qd, N2.qm⟩, N3.qb, N3.qr, N3.qd, N3.qm⟩, A.cq, C.cq, x1, x2, y1, y2⟩
theorem in4 {k b r d m : Nat} {Ow : List Nat} (h : k ∈ b :: r :: d :: m :: Ow) : k = b ∨ k = r ∨ k = d ∨ k = m ∨ k ∈ Ow := by simpa using h
theorem parA {w4 w5 : World} {l1 l2 q b r d m Q B R D M : Nat} {s0 s2 : Sg} (fl : Five5 l1 l2 q b r d m) (fh : Five5 l2 w4.heap.size Q B R D M) (fq : (q ≠ b ∧ q ≠ r ∧ q ≠ d ∧ q ≠ m) ∧ (Q ≠ B ∧ Q ≠ R ∧ Q ≠ D ∧ Q ≠ M)) (ca : w4.cell? ⟨q, 0, none⟩ = some (.pointer (some ⟨b, 0, none⟩))) (cb : w4.cell? ⟨Q, 0, none⟩ = some (.pointer (some ⟨B, 0, none⟩))) (Xa : Fix w4 [] b r d m) (Xb : Fix w4 [] B R D M) (Mb : MemS w4 [] B R D M s0 w4) (Ma5 : MemS w4 [] b r d m s2 w5) :
  w5.cell? ⟨Q, 0, none⟩ = some (.pointer (some ⟨B, 0, none⟩)) ∧ Fix w5 [] B R D M ∧ MemS w5 [] B R D M s0 w5 ∧ w5.cell? ⟨q, 0, none⟩ = some (.pointer (some ⟨b, 0, none⟩)) ∧ ∃ Oa, (∀ k, k ∈ Oa → k < w5.heap.size ∧ w4.heap.size ≤ k) ∧ Fix w5 Oa b r d m ∧ MemS w5 Oa b r d m s2 w5 := by
 unfold Five5 at fl fh
 have u := Ma5.up
 obtain ⟨Xb5, Mb5⟩ := MemS.apart Xb Mb u (by
  intro k hk h
  have h1 := in4 hk; have h2 := in4 h
  simp only [List.not_mem_nil, or_false] at h1 h2
  omega)
 obtain ⟨Oa, oa, Xa5, Ma5'⟩ := Ma5.rebase Xa (Below.refl _ _)
 refine ⟨u.was cb (fun h => ?_), Xb5, Mb5, u.was ca (fun h => ?_), Oa, fun k hk => ⟨(oa k hk).1, ?_⟩, Xa5, Ma5'⟩
 ·have h1 := in4 h
  simp only [List.not_mem_nil, or_false] at h1
  omega
 ·have h1 := in4 h
  simp only [List.not_mem_nil, or_false] at h1
  omega
 ·have := (oa k hk).2.2
  simpa using this
theorem parB {w4 w5 w6 : World} {l1 l2 q b r d m Q B R D M : Nat} {s1 s2 : Sg} {Oa : List Nat} (fl : Five5 l1 l2 q b r d m) (fh : Five5 l2 w4.heap.size Q B R D M) (fq : (q ≠ b ∧ q ≠ r ∧ q ≠ d ∧ q ≠ m) ∧ (Q ≠ B ∧ Q ≠ R ∧ Q ≠ D ∧ Q ≠ M)) (z5 : w4.heap.size ≤ w5.heap.size) (ca5 : w5.cell? ⟨q, 0, none⟩ = some (.pointer (some ⟨b, 0, none⟩))) (cb5 : w5.cell? ⟨Q, 0, none⟩ = some (.pointer (some ⟨B, 0, none⟩))) (oa : ∀ k, k ∈ Oa → k < w5.heap.size ∧ w4.heap.size ≤ k) (Xa5 : Fix w5 Oa b r d m) (Ma5 : MemS w5 Oa b r d m s2 w5) (Mb6 : MemS w5 [] B R D M s1 w6) :
  w6.cell? ⟨q, 0, none⟩ = some (.pointer (some ⟨b, 0, none⟩)) ∧ (∀ ww, MemS w5 [] B R D M s1 ww → ww.cell? ⟨Q, 0, none⟩ = some (.pointer (some ⟨B, 0, none⟩))) ∧ Fix w6 Oa b r d m ∧ MemS w6 Oa b r d m s2 w6 := by
 unfold Five5 at fl fh
 have u := Mb6.up
 obtain ⟨Xa6, Ma6⟩ := MemS.apart Xa5 Ma5 u (by
  intro k hk h
  have h1 := in4 hk; have h2 := in4 h
  simp only [List.not_mem_nil, or_false] at h1
  rcases h2 with h2 | h2 | h2 | h2 | h2
  ·omega
  ·omega
  ·omega
  ·omega
  ·have := oa k h2; omega)
 refine ⟨u.was ca5 (fun h => ?_), fun ww hM => hM.up.was cb5 (fun h => ?_), Xa6, Ma6⟩
 ·have h1 := in4 h
  simp only [List.not_mem_nil, or_false] at h1
  omega
 ·have h1 := in4 h
  simp only [List.not_mem_nil, or_false] at h1
  omega
theorem parC {w4 w5 w6 V : World} {l1 l2 q b r d m Q B R D M : Nat} {s1 s2 : Sg} {Oa : List Nat} (fl : Five5 l1 l2 q b r d m) (fh : Five5 l2 w4.heap.size Q B R D M) (fq : (q ≠ b ∧ q ≠ r ∧ q ≠ d ∧ q ≠ m) ∧ (Q ≠ B ∧ Q ≠ R ∧ Q ≠ D ∧ Q ≠ M)) (z5 : w4.heap.size ≤ w5.heap.size) (oa : ∀ k, k ∈ Oa → k < w5.heap.size ∧ w4.heap.size ≤ k) (Xa6 : Fix w6 Oa b r d m) (Xb5 : Fix w5 [] B R D M) (Ma6 : MemS w6 Oa b r d m s2 w6) (Mb6 : MemS w5 [] B R D M s1 w6) (cq6 : ∀ ww, MemS w5 [] B R D M s1 ww → ww.cell? ⟨Q, 0, none⟩ = some (.pointer (some ⟨B, 0, none⟩))) (ca6 : w6.cell? ⟨q, 0, none⟩ = some (.pointer (some ⟨b, 0, none⟩))) (hb : Below w6.heap.size w6 V) :
  ∃ Ob, (∀ k, k ∈ Ob → k < w6.heap.size ∧ w5.heap.size ≤ k) ∧ Fix V Ob B R D M ∧ MemS V Ob B R D M s1 V ∧ V.cell? ⟨Q, 0, none⟩ = some (.pointer (some ⟨B, 0, none⟩)) ∧ ∃ Oa2, (∀ k, k ∈ Oa2 → k < w5.heap.size ∧ w4.heap.size ≤ k) ∧ Fix V Oa2 b r d m ∧ MemS V Oa2 b r d m s2 V ∧ V.cell? ⟨q, 0, none⟩ = some (.pointer (some ⟨b, 0, none⟩)) := by
 obtain ⟨Ob, ob, XbV, MbV⟩ := Mb6.rebase Xb5 hb
 obtain ⟨Oa2, oa2, XaV, MaV⟩ := Ma6.rebase Xa6 hb
 refine ⟨Ob, fun k hk => ⟨(ob k hk).1, ?_⟩, XbV, MbV, memLater hb (cq6 _ Mb6), Oa2, fun k hk => ?_, XaV, MaV, memLater hb ca6⟩
 ·have := (ob k hk).2.2
  simpa using this
 ·have h1 := (oa2 k hk).1
  rcases (oa2 k hk).2.2 with h2 | h2
  ·exact oa k h2
  ·omega
theorem parD {w4 w5 w6 V w9 : World} {l1 l2 q b r d m Q B R D M : Nat} {s2 s3 : Sg} {Oa Oa2 Ob : List Nat} (fl : Five5 l1 l2 q b r d m) (fh : Five5 l2 w4.heap.size Q B R D M) (fq : (q ≠ b ∧ q ≠ r ∧ q ≠ d ∧ q ≠ m) ∧ (Q ≠ B ∧ Q ≠ R ∧ Q ≠ D ∧ Q ≠ M)) (z5 : w4.heap.size ≤ w5.heap.size) (oa : ∀ k, k ∈ Oa → k < w5.heap.size ∧ w4.heap.size ≤ k) (oa2 : ∀ k, k ∈ Oa2 → k < w5.heap.size ∧ w4.heap.size ≤ k) (ob : ∀ k, k ∈ Ob → k < w6.heap.size ∧ w5.heap.size ≤ k) (Xa8 : Fix V Oa2 b r d m) (Ma8 : MemS V Oa2 b r d m s2 V) (ca8 : V.cell? ⟨q, 0, none⟩ = some (.pointer (some ⟨b, 0, none⟩))) (cb8 : V.cell? ⟨Q, 0, none⟩ = some (.pointer (some ⟨B, 0, none⟩))) (Mb9 : MemS V Ob B R D M s3 w9) :
  w9.cell? ⟨q, 0, none⟩ = some (.pointer (some ⟨b, 0, none⟩)) ∧ w9.cell? ⟨Q, 0, none⟩ = some (.pointer (some ⟨B, 0, none⟩)) ∧ Fix w9 Oa2 b r d m ∧ MemS w9 Oa2 b r d m s2 w9 := by
 unfold Five5 at fl fh
 have u := Mb9.up
 obtain ⟨Xa9, Ma9⟩ := MemS.apart Xa8 Ma8 u (by
  intro k hk h
  have h1 := in4 hk; have h2 := in4 h
  rcases h1 with h1 | h1 | h1 | h1 | h1
  all_goals
   rcases h2 with h2 | h2 | h2 | h2 | h2
   all_goals
    (try have h3 := ob k h1)
    (try have h4 := oa2 k h2)
    omega)
 refine ⟨u.was ca8 (fun h => ?_), u.was cb8 (fun h => ?_), Xa9, Ma9⟩
 ·rcases in4 h with h1 | h1 | h1 | h1 | h1
  ·omega
  ·omega
  ·omega
  ·omega
  ·have := ob _ h1; omega
 ·rcases in4 h with h1 | h1 | h1 | h1 | h1
  ·omega
  ·omega
  ·omega
  ·omega
  ·have := ob _ h1; omega
theorem parE {w w4 w5 w6 V w9 : World} {l1 l2 q b r d m Q B R D M : Nat} {Oa Ob : List Nat} (fl : Five5 l1 l2 q b r d m) (fh : Five5 l2 w4.heap.size Q B R D M) (z5 : w4.heap.size ≤ w5.heap.size) (oa : ∀ k, k ∈ Oa → k < w5.heap.size ∧ w4.heap.size ≤ k) (ob : ∀ k, k ∈ Ob → k < w6.heap.size ∧ w5.heap.size ≤ k) (B4 : Below w.heap.size w w4) (u5 : Upd [b, r, d, m] w4 w5) (u6 : Upd [B, R, D, M] w5 w6) (hb : Below w6.heap.size w6 V) (u9 : Upd (B :: R :: D :: M :: Ob) V w9) (hl : w.heap.size ≤ l1) : Below w.heap.size w w9 := by
 unfold Five5 at fl fh
 have s4 := B4.size
 have s6 := u6.size
 have s8 := hb.size
 have a1 : Below w.heap.size w4 w5 := below_of_upd u5 s4 (fun k hk => by
  have h1 := in4 hk
  simp only [List.not_mem_nil, or_false] at h1
  omega)
 have a2 : Below w.heap.size w5 w6 := below_of_upd u6 qo (fun k hk => by
  have h1 := in4 hk
  simp only [List.not_mem_nil, or_false] at h1
  omega)
 have a3 : Below w.heap.size V w9 := below_of_upd u9 qo (fun k hk => by
  rcases in4 hk with h1 | h1 | h1 | h1 | h1
  ·omega
  ·omega
  ·omega
  ·omega
  ·have := ob _ h1; omega)
 exact (((B4.trans a1).trans a2).trans (hb.mono qo)).trans a3
theorem qt2 {P : Prop} (h : P := by
  go_enter func6, ntmps6
  go_wp2_with fail
  refine Calls.mono (HK.out _) ?_
  rintro e w1 ⟨rfl, g1⟩
  have z1 := g1.size
  go_wp2_with fail
  refine Calls.mono (HO.out _) ?_
  rintro e w2 ⟨q, b, r, d, m, rfl, N2, g2⟩
  have z2 := g2.size
  go_wp2_with fail
  refine Calls.mono (HO.out _) ?_
  rintro e w3 ⟨Q, B, R, D, M, rfl, N3, g3⟩
  have z3 := g3.size
  go_wp2_with fail
  refine Calls.mono (HU2.out _) ?_
  rintro e w4 ⟨rfl, g4⟩
  have z4 := g4.size
  have F := twoNew N2 N3 g3 g4
  have B4 : Below w.heap.size w w4 := by
   repeat exact qB
  clear HK HO HU2 g1 g2 g3 g4 N2 N3
  obtain ⟨fl, fh, fq, ca, cb, Xa, Ma, Xb, Mb⟩ := F
  go_wp2_with fail
  refine Calls.mono (runTypeB hR qo Xa _ ca Ma) ?_
  rintro e w5 ⟨rfl, Ma5⟩
  obtain ⟨cb5, Xb5, Mb5, ca5, Oa, oa, Xa5, Ma5'⟩ := parA fl fh fq ca cb Xa Xb Mb Ma5
  have z5 := Ma5.up.size
  have u5 := Ma5.up
  clear Ma Mb Ma5 ca cb hR Xa Xb
  go_wp2_with fail
  refine Calls.mono (runTypeB hRa qo Xb5 _ cb5 Mb5) ?_
  rintro e w6 ⟨rfl, Mb6⟩
  obtain ⟨ca6, cq6, Xa6, Ma6⟩ := parB fl fh fq z5 ca5 cb5 oa Xa5 Ma5' Mb6
  have z6 := Mb6.up.size
  have u6 := Mb6.up
  have CQ6 : Hid (∀ ww, MemS w5 [] B R D M s1 ww → qC 18 #[.pointer (some ⟨Q, 0, none⟩)] ww (.agg #[.string s1.p.t, .int .i64 s1.p.pl, .int .i64 s1.p.anchor, .int .i64 s1.p.mode, .bool (waits s1.p)])) := fun ww h => h.state (cq6 ww h)
  clear Mb5 Ma5' hRa Xa5
  go_wp2_with fail
  refine Calls.mono (CQ6.out _ Mb6) ?_
  rintro e w7 ⟨rfl, g7⟩
  have z7 := g7.size
  have Mb7 := MemS.firm _ _ Mb6 g7
  go_wp2_with fail
  refine Calls.mono (CQ6.out _ (MemS.firm _ _ Mb7 qB)) ?_
  rintro e w8 ⟨rfl, g8⟩
  have z8 := g8.size
  simp at z8
  have B68 : Below w6.heap.size w6 (w8.alloc (.cells #[.string s1.p.t, .int .i64 s1.p.pl, .int .i64 s1.p.anchor, .int .i64 s1.p.mode, .bool (waits s1.p)] 32)) := by
   repeat exact qB
  obtain ⟨Ob, ob, Xb8, Mb8, cb8, Oa2, oa2, Xa8, Ma8, ca8⟩ := parC fl fh fq z5 oa Xa6 Xb5 Ma6 Mb6 cq6 ca6 B68
  have s7 := St5.later g8 (St5.new w7 s1.p.t s1.p.pl s1.p.anchor s1.p.mode (waits s1.p) 32)
  have s7' := St5.later ((Below.refl _ w8).alloc (Nat.le_refl _) (.cells #[.string s1.p.t, .int .i64 s1.p.pl, .int .i64 s1.p.anchor, .int .i64 s1.p.mode, .bool (waits s1.p)] 32)) s7
  have s8 := St5.new w8 s1.p.t s1.p.pl s1.p.anchor s1.p.mode (waits s1.p) 32
  clear CQ6 Mb6 Ma6 Mb7 cq6 ca6 s7 g7 g8 Xa6 Xb5 cb5 ca5
  go_wp2_with fail
  refine Calls.mono (runTypeB hRb qo Xb8 _ cb8 Mb8) ?_
  rintro e w9 ⟨rfl, Mb9⟩
  have u9 := Mb9.up
  have z9 := Mb9.up.size
  simp at z9
  obtain ⟨ca9, cb9, Xa9, Ma9⟩ := parD fl fh fq z5 oa oa2 ob Xa8 Ma8 ca8 cb8 Mb9
  have nS : ∀ k, w6.heap.size ≤ k → k ∉ B :: R :: D :: M :: Ob := by
   intro k hk h
   obtain ⟨_, f1, f2, f3, f4, f5⟩ := fh
   rcases List.mem_cons.1 h with h | h
   ·omega
   rcases List.mem_cons.1 h with h | h
   ·omega
   rcases List.mem_cons.1 h with h | h
   ·omega
   rcases List.mem_cons.1 h with h | h
   ·omega
   have := (ob _ h).1; omega
  have s7 := s7'.upd u9 (nS _ qo)
  have s9 := s8.upd u9 (nS _ qo)
  have B9 : Below w.heap.size w w9 := parE fl fh z5 oa ob B4 u5 u6 B68 u9 qo
  clear Mb8 Ma8 s7' s8 hRb Xa8 Xb8 ca8 cb8 u5 u6 u9 B68
  go_wp2_with fail
  refine Calls.mono (Ma9.reg ca9 hrg) ?_
  rintro e w10 ⟨rfl, g10⟩
  have z10 := g10.size
  have Mb10 := MemS.firm _ _ Mb9 g10
  go_wp2_with fail
  refine Calls.mono (Mb10.reg (memLater g10 cb9) hrg) ?_
  rintro e w11 ⟨rfl, g11⟩
  have z11 := g11.size
  have s7b := St5.later g11 (St5.later g10 s7)
  have s9b := St5.later g11 (St5.later g10 s9)
  have t0 := s7b.c0; have t1 := s7b.c1; have t2 := s7b.c2; have t3 := s7b.c3; have t4 := s7b.c4
  have v0 := s9b.c0; have v1 := s9b.c1; have v2 := s9b.c2; have v3 := s9b.c3; have v4 := s9b.c4
  have Ma11 := MemS.firm _ _ (MemS.firm _ _ Ma9 g10) g11
  have Mb11 := MemS.firm _ _ Mb10 g11
  have ca11 := memLater g11 (memLater g10 ca9)
  have cb11 := memLater g11 (memLater g10 cb9)
  have HE1 : ∀ ww : World, (binOp .eql 32 (.agg #[.string s1.p.t, .int .i64 s1.p.pl, .int .i64 s1.p.anchor, .int .i64 s1.p.mode, .bool (waits s1.p)]) (.agg #[.string s1.p.t, .int .i64 s1.p.pl, .int .i64 s1.p.anchor, .int .i64 s1.p.mode, .bool (waits s1.p)])).run Tryz.prog ww = .ok (.bool true) ww := fun ww => eql_stateK _ _ _ _ _ ww
  have HE2 : ∀ ww : World, (binOp .eql 32 (.agg #[.string s2.p.t, .int .i64 s2.p.pl, .int .i64 s2.p.anchor, .int .i64 s2.p.mode, .bool (waits s2.p)]) (.agg #[.string s2.p.t, .int .i64 s2.p.pl, .int .i64 s2.p.anchor, .int .i64 s2.p.mode, .bool (waits s2.p)])).run Tryz.prog ww = .ok (.bool true) ww := fun ww => eql_stateK _ _ _ _ _ ww
  have B11 : Below w.heap.size w w11 := by
   repeat exact qB
  have HSa := Ma11.state ca11
  have wn : IntKind.i64.wrap (((n1 : Nat) : Int) + ((n2 : Nat) : Int)) = ((n1 : Nat) : Int) + ((n2 : Nat) : Int) := by unfold IntKind.wrap; simp [IntKind.bits, IntKind.signed]; omega
  clear Ma9 Mb9 Mb10 ca9 cb9 g10 s7 s9 s7b s9b B9 Ma11 ca11 g11
  go_wp2_with fail
  refine Calls.mono HSa ?_
  rintro e w12 ⟨rfl, g12⟩
  have z12 := g12.size
  have HSb := (MemS.firm _ _ Mb11 g12).state (memLater g12 cb11)
  clear HSa Mb11 cb11
  go_wp2_with fail
  refine Calls.mono HSb ?_
  rintro e w13 ⟨rfl, g13⟩
  have z13 := g13.size
  go_wp2
  go_ret
  refine ⟨rfl, ?_⟩
  repeat exact qB
 ) : P := h
theorem kParted (HA : AnyOk) (text keys : ByteArray) (at' : Int) (w : World) :
  qC 6 #[.string text, .string keys, .int .i64 at'] w (.bool true) := by
 have HK : qH 14 #[] (.bool true) := fun ww => kKnown ww
 have HO : Hid (∀ ww, Calls Tryz.prog 15 #[.string text] ww fun e w' => ∃ q b r d m : Nat, e = .returned (.pointer (some ⟨q, 0, none⟩)) ∧ New7 ww w' q b r d m (cut3 text) ∧ Below ww.heap.size ww w') := fun ww => kOpened text ww
 have HU2 : qH 16 #[.string keys, .int .i64 300] (.string (cut3 keys)) := fun ww => kUpTo keys ww
 have ht := cut3_size text
 have hk := cut3_size keys
 generalize cut3 text = t at *
 generalize cut3 keys = ks at *
 have hkl : ks.data.toList.length = ks.size := by rw [Array.length_toList]; rfl
 have HAT : ∃ AT : Nat, AT ≤ ks.size ∧ (at' = AT ∨ (at' < 0 ∧ AT = ks.size / 2) ∨ (¬ at' < 0 ∧ ((ks.size : Nat) : Int) < at' ∧ AT = ks.size / 2)) := by
  by_cases a1 : at' < 0
  ·exact ⟨ks.size / 2, by omega, Or.inr (Or.inl ⟨a1, rfl⟩)⟩
  ·by_cases a2 : ((ks.size : Nat) : Int) < at'
   ·exact ⟨ks.size / 2, by omega, Or.inr (Or.inr ⟨a1, a2, rfl⟩)⟩
   ·exact ⟨at'.toNat, by omega, Or.inl qo⟩
 obtain ⟨AT, hAT, hcase⟩ := HAT
 obtain ⟨n, s2, hR, inv2⟩ := RunP.ex HA ks.data.toList 0 (sg0 t) (sg0_inv t qo) qo
 have hR2 := hR
 rw [← List.take_append_drop AT ks.data.toList] at hR2
 obtain ⟨n1, s1, n2, hRa, hRb, hn12⟩ := RunP.split _ _ _ _ _ hR2
 rw [← list_take] at hRa
 rw [← list_drop ks AT hAT] at hRb
 have hnl := RunP.len _ _ _ _ hR
 subst hn12
 obtain ⟨rt, rl, hrg, _⟩ := inv2.f 97
 have hz1 : (ks.extract 0 AT).size ≤ 300 := by rw [ByteArray.size_extract]; omega
 have hz2 : (ks.extract AT ks.size).size ≤ 300 := by rw [ByteArray.size_extract]; omega
 clear hR2 inv2
 have i1 : ((ks.size : Nat) : Int) / 2 = (((ks.size / 2 : Nat)) : Int) := by omega
 rcases hcase with hc | ⟨hc, hc2⟩ | ⟨hc, hc3, hc2⟩
 ·subst hc
  have b1 : ¬ ((AT : Nat) : Int) < 0 := by omega
  have b2 : ¬ ((ks.size : Nat) : Int) < ((AT : Nat) : Int) := by omega
  have b3 : ((AT : Nat) : Int) ≤ ((ks.size : Nat) : Int) := by omega
  clear i1
  exact qt2
 ·rw [← hc2] at i1
  have b1 : ((AT : Nat) : Int) ≤ ((ks.size : Nat) : Int) := by omega
  clear hc2
  exact qt2
 ·rw [← hc2] at i1
  have b1 : ((AT : Nat) : Int) ≤ ((ks.size : Nat) : Int) := by omega
  clear hc2
  exact qt2
