/- A part. -/
import Derived.Test.YtlendfhehhacpaaGreatP52
import Derived.BigQuiet
set_option linter.unusedVariables false
set_option linter.unusedSimpArgs false
set_option maxRecDepth 100000
set_option maxHeartbeats 8000000
namespace Go.Proofs.YtlendfhehhacpaaGreat
open Go.RowKit Nib Tryz
theorem bytes_list (s : ByteArray) : (⟨s.data.toList.toArray⟩ : ByteArray) = s := by
 cases s
 simp
theorem runTypeB {ks : ByteArray} {s s2 : Sg} {n : Nat} (hR : RunP ks.data.toList s n s2) (hz : ks.size ≤ 17592186044416) {w0 : World} {Ow : List Nat} {b r d m q : Nat} (X : Fix w0 Ow b r d m) (ww : World) (hq : ww.cell? ⟨q, 0, none⟩ = some (.pointer (some ⟨b, 0, none⟩))) (M : MemS w0 Ow b r d m s ww) :
  Calls Tryz.prog 17 #[.pointer (some ⟨q, 0, none⟩), .string ks] ww fun e w' => e = .returned (.int .i64 (n : Nat)) ∧ MemS w0 Ow b r d m s2 w' := by
 have := runType hR (by rw [Array.length_toList]; exact hz) X ww hq M
 rw [bytes_list] at this
 exact this
structure St5 (w : World) (b : Nat) (s : ByteArray) (p a m : Int) (l : Bool) : Prop where
 c0 : w.cell? ⟨b, 0, none⟩ = some (.string s)
 c1 : w.cell? ⟨b, 1, none⟩ = some (.int .i64 p)
 c2 : w.cell? ⟨b, 2, none⟩ = some (.int .i64 a)
 c3 : w.cell? ⟨b, 3, none⟩ = some (.int .i64 m)
 c4 : w.cell? ⟨b, 4, none⟩ = some (.bool l)
theorem St5.new (w : World) (s : ByteArray) (p a m : Int) (l : Bool) (t : Nat) : St5 (w.alloc (.cells #[.string s, .int .i64 p, .int .i64 a, .int .i64 m, .bool l] t)) w.heap.size s p a m l := ⟨by simp, by simp, by simp, by simp, by simp⟩
theorem St5.later {w w' : World} {b : Nat} {s : ByteArray} {p a m : Int} {l : Bool} (g : Below w.heap.size w w') (h : St5 w b s p a m l) : St5 w' b s p a m l := ⟨memLater g h.c0, memLater g h.c1, memLater g h.c2, memLater g h.c3, memLater g h.c4⟩
theorem St5.upd {S : List Nat} {w w' : World} {b : Nat} {s : ByteArray} {p a m : Int} {l : Bool} (h : St5 w b s p a m l) (hu : Upd S w w') (hn : b ∉ S) : St5 w' b s p a m l := ⟨hu.was h.c0 hn, hu.was h.c1 hn, hu.was h.c2 hn, hu.was h.c3 hn, hu.was h.c4 hn⟩
def Five5 (lo hi q b r d m : Nat) : Prop := (lo ≤ q ∧ lo ≤ b ∧ lo ≤ r ∧ lo ≤ d ∧ lo ≤ m) ∧ (q < hi ∧ b < hi ∧ r < hi ∧ d < hi ∧ m < hi)
theorem twoNew {w1 w2 w3 w4 : World} {q b r d m Q B R D M : Nat} {t : ByteArray} (N2 : New7 w1 w2 q b r d m t) (N3 : New7 w2 w3 Q B R D M t) (g3 : Below w2.heap.size w2 w3) (g4 : Below w3.heap.size w3 w4) :
  Five5 w1.heap.size w2.heap.size q b r d m ∧ Five5 w2.heap.size w4.heap.size Q B R D M ∧ ((q ≠ b ∧ q ≠ r ∧ q ≠ d ∧ q ≠ m) ∧ (Q ≠ B ∧ Q ≠ R ∧ Q ≠ D ∧ Q ≠ M)) ∧ w4.cell? ⟨q, 0, none⟩ = some (.pointer (some ⟨b, 0, none⟩)) ∧ w4.cell? ⟨Q, 0, none⟩ = some (.pointer (some ⟨B, 0, none⟩)) ∧ Fix w4 [] b r d m ∧ MemS w4 [] b r d m (sg0 t) w4 ∧ Fix w4 [] B R D M ∧ MemS w4 [] B R D M (sg0 t) w4 := by
 have A := (N2.below g3).below g4
 have C := N3.below g4
 obtain ⟨x1, x2⟩ := A.mems
 obtain ⟨y1, y2⟩ := C.mems
 have hq : q < w2.heap.size := World.block_lt_of_cell? w2 ⟨q, 0, none⟩ N2.cq
 have hQ : Q < w4.heap.size := World.block_lt_of_cell? w4 ⟨Q, 0, none⟩ C.cq
 exact ⟨⟨⟨N2.lq, N2.lb, N2.lr, N2.ld, N2.lm⟩, hq, N2.bd.lt, N2.rd.bg.lt, N2.rd.dk.lt, N2.rg.lt⟩, ⟨⟨N3.lq, N3.lb, N3.lr, N3.ld, N3.lm⟩, hQ, C.bd.lt, C.rd.bg.lt, C.rd.dk.lt, C.rg.lt⟩, ⟨⟨N2.qb, N2.qr, N2.qd, N2.qm⟩, N3.qb, N3.qr, N3.qd, N3.qm⟩, A.cq, C.cq, x1, x2, y1, y2⟩
theorem in4 {k b r d m : Nat} {Ow : List Nat} (h : k ∈ b :: r :: d :: m :: Ow) : k = b ∨ k = r ∨ k = d ∨ k = m ∨ k ∈ Ow := by simpa using h
theorem parA {w4 w5 : World} {l1 l2 q b r d m Q B R D M : Nat} {s0 s2 : Sg} (fl : Five5 l1 l2 q b r d m) (fh : Five5 l2 w4.heap.size Q B R D M) (fq : (q ≠ b ∧ q ≠ r ∧ q ≠ d ∧ q ≠ m) ∧ (Q ≠ B ∧ Q ≠ R ∧ Q ≠ D ∧ Q ≠ M)) (ca : w4.cell? ⟨q, 0, none⟩ = some (.pointer (some ⟨b, 0, none⟩))) (cb : w4.cell? ⟨Q, 0, none⟩ = some (.pointer (some ⟨B, 0, none⟩))) (Xa : Fix w4 [] b r d m) (Xb : Fix w4 [] B R D M) (Mb : MemS w4 [] B R D M s0 w4) (Ma5 : MemS w4 [] b r d m s2 w5) :
  w5.cell? ⟨Q, 0, none⟩ = some (.pointer (some ⟨B, 0, none⟩)) ∧ Fix w5 [] B R D M ∧ MemS w5 [] B R D M s0 w5 ∧ w5.cell? ⟨q, 0, none⟩ = some (.pointer (some ⟨b, 0, none⟩)) ∧ ∃ Oa, (∀ k, k ∈ Oa → k < w5.heap.size ∧ w4.heap.size ≤ k) ∧ Fix w5 Oa b r d m ∧ MemS w5 Oa b r d m s2 w5 := by
 unfold Five5 at fl fh
 have u := Ma5.up
 obtain ⟨Xb5, Mb5⟩ := MemS.apart Xb Mb u (by
  intro k hk h
  have h1 := in4 hk; have h2 := in4 h
  simp only [List.not_mem_nil, or_false] at h1 h2
  omega)
 obtain ⟨Oa, oa, Xa5, Ma5'⟩ := Ma5.rebase Xa (Below.refl _ _)
 refine ⟨u.was cb (fun h => ?_), Xb5, Mb5, u.was ca (fun h => ?_), Oa, fun k hk => ⟨(oa k hk).1, ?_⟩, Xa5, Ma5'⟩
 ·have h1 := in4 h
  simp only [List.not_mem_nil, or_false] at h1
  omega
 ·have h1 := in4 h
  simp only [List.not_mem_nil, or_false] at h1
  omega
 ·have := (oa k hk).2.2
  simpa using this
theorem parB {w4 w5 w6 : World} {l1 l2 q b r d m Q B R D M : Nat} {s1 s2 : Sg} {Oa : List Nat} (fl : Five5 l1 l2 q b r d m) (fh : Five5 l2 w4.heap.size Q B R D M) (fq : (q ≠ b ∧ q ≠ r ∧ q ≠ d ∧ q ≠ m) ∧ (Q ≠ B ∧ Q ≠ R ∧ Q ≠ D ∧ Q ≠ M)) (z5 : w4.heap.size ≤ w5.heap.size) (ca5 : w5.cell? ⟨q, 0, none⟩ = some (.pointer (some ⟨b, 0, none⟩))) (cb5 : w5.cell? ⟨Q, 0, none⟩ = some (.pointer (some ⟨B, 0, none⟩))) (oa : ∀ k, k ∈ Oa → k < w5.heap.size ∧ w4.heap.size ≤ k) (Xa5 : Fix w5 Oa b r d m) (Ma5 : MemS w5 Oa b r d m s2 w5) (Mb6 : MemS w5 [] B R D M s1 w6) :
  w6.cell? ⟨q, 0, none⟩ = some (.pointer (some ⟨b, 0, none⟩)) ∧ (∀ ww, MemS w5 [] B R D M s1 ww → ww.cell? ⟨Q, 0, none⟩ = some (.pointer (some ⟨B, 0, none⟩))) ∧ Fix w6 Oa b r d m ∧ MemS w6 Oa b r d m s2 w6 := by
 unfold Five5 at fl fh
 have u := Mb6.up
 obtain ⟨Xa6, Ma6⟩ := MemS.apart Xa5 Ma5 u (by
  intro k hk h
  have h1 := in4 hk; have h2 := in4 h
  simp only [List.not_mem_nil, or_false] at h1
  rcases h2 with h2 | h2 | h2 | h2 | h2
  ·omega
  ·omega
  ·omega
  ·omega
  ·have := oa k h2; omega)
 refine ⟨u.was ca5 (fun h => ?_), fun ww hM => hM.up.was cb5 (fun h => ?_), Xa6, Ma6⟩
 ·have h1 := in4 h
  simp only [List.not_mem_nil, or_false] at h1
  omega
 ·have h1 := in4 h
  simp only [List.not_mem_nil, or_false] at h1
  omega
theorem parD {w4 w5 w6 V w9 : World} {l1 l2 q b r d m Q B R D M : Nat} {s2 s3 : Sg} {Oa Oa2 Ob : List Nat} (fl : Five5 l1 l2 q b r d m) (fh : Five5 l2 w4.heap.size Q B R D M) (fq : (q ≠ b ∧ q ≠ r ∧ q ≠ d ∧ q ≠ m) ∧ (Q ≠ B ∧ Q ≠ R ∧ Q ≠ D ∧ Q ≠ M)) (z5 : w4.heap.size ≤ w5.heap.size) (oa : ∀ k, k ∈ Oa → k < w5.heap.size ∧ w4.heap.size ≤ k) (oa2 : ∀ k, k ∈ Oa2 → k < w5.heap.size ∧ w4.heap.size ≤ k) (ob : ∀ k, k ∈ Ob → k < w6.heap.size ∧ w5.heap.size ≤ k) (Xa8 : Fix V Oa2 b r d m) (Ma8 : MemS V Oa2 b r d m s2 V) (ca8 : V.cell? ⟨q, 0, none⟩ = some (.pointer (some ⟨b, 0, none⟩))) (cb8 : V.cell? ⟨Q, 0, none⟩ = some (.pointer (some ⟨B, 0, none⟩))) (Mb9 : MemS V Ob B R D M s3 w9) :
  w9.cell? ⟨q, 0, none⟩ = some (.pointer (some ⟨b, 0, none⟩)) ∧ w9.cell? ⟨Q, 0, none⟩ = some (.pointer (some ⟨B, 0, none⟩)) ∧ Fix w9 Oa2 b r d m ∧ MemS w9 Oa2 b r d m s2 w9 := by
 unfold Five5 at fl fh
 have u := Mb9.up
 obtain ⟨Xa9, Ma9⟩ := MemS.apart Xa8 Ma8 u (by
  intro k hk h
  have h1 := in4 hk; have h2 := in4 h
  rcases h1 with h1 | h1 | h1 | h1 | h1
  all_goals
   rcases h2 with h2 | h2 | h2 | h2 | h2
   all_goals
    (try have h3 := ob k h1)
    (try have h4 := oa2 k h2)
    omega)
 refine ⟨u.was ca8 (fun h => ?_), u.was cb8 (fun h => ?_), Xa9, Ma9⟩
 ·rcases in4 h with h1 | h1 | h1 | h1 | h1
  ·omega
  ·omega
  ·omega
  ·omega
  ·have := ob _ h1; omega
 ·rcases in4 h with h1 | h1 | h1 | h1 | h1
  ·omega
  ·omega
  ·omega
  ·omega
  ·have := ob _ h1; omega
structure Pl where
 q : Nat
 b : Nat
 r : Nat
 d : Nat
 m : Nat
def Pl.bs (l : Pl) (O : List Nat) : List Nat := l.b :: l.r :: l.d :: l.m :: O
def Pair (lo : Nat) (P : List Nat) (A B : Pl) (sA sB : Sg) (ww : World) : Prop :=
 ∃ OA OB, Fix ww OA A.b A.r A.d A.m ∧ MemS ww OA A.b A.r A.d A.m sA ww ∧ Fix ww OB B.b B.r B.d B.m ∧ MemS ww OB B.b B.r B.d B.m sB ww ∧ (∀ k, k ∈ A.bs OA → k ∉ B.bs OB) ∧ (∀ k, k ∈ A.bs OA ∨ k ∈ B.bs OB → lo ≤ k ∧ k ∉ P ∧ k ≠ A.q ∧ k ≠ B.q ∧ k < ww.heap.size) ∧ ww.cell? ⟨A.q, 0, none⟩ = some (.pointer (some ⟨A.b, 0, none⟩)) ∧ ww.cell? ⟨B.q, 0, none⟩ = some (.pointer (some ⟨B.b, 0, none⟩)) ∧ (∀ k, k ∈ P → k < ww.heap.size) ∧ lo ≤ ww.heap.size
def Kept (lo : Nat) (P : List Nat) (ww w' : World) : Prop := ∃ S, Upd S ww w' ∧ ∀ k, k ∈ S → lo ≤ k ∧ k ∉ P
theorem Kept.below {lo : Nat} {P : List Nat} {ww w' : World} (h : Kept lo P ww w') (hl : lo ≤ ww.heap.size) : Below lo ww w' := by
 obtain ⟨S, u, hS⟩ := h
 exact below_of_upd u hl (fun k hk => (hS k hk).1)
theorem Kept.was {lo : Nat} {P : List Nat} {ww w' : World} {b o : Nat} {v : Value} (h : Kept lo P ww w') (hb : b ∈ P) (hc : ww.cell? ⟨b, o, none⟩ = some v) : w'.cell? ⟨b, o, none⟩ = some v := by
 obtain ⟨S, u, hS⟩ := h
 exact u.was hc (fun hk => (hS b hk).2 hb)
theorem Pair.symm {lo : Nat} {P : List Nat} {A B : Pl} {sA sB : Sg} {ww : World} (h : Pair lo P A B sA sB ww) : Pair lo P B A sB sA ww := by
 obtain ⟨OA, OB, h1, h2, h3, h4, h5, h6, h7, h8, h9, h10⟩ := h
 refine ⟨OB, OA, h3, h4, h1, h2, fun k hk h => h5 k h hk, fun k hk => ?_, h8, h7, h9, h10⟩
 obtain ⟨a1, a2, a3, a4, a5⟩ := h6 k hk.symm
 exact ⟨a1, a2, a4, a3, a5⟩
theorem Pair.type {lo : Nat} {P : List Nat} {A B : Pl} {sA sA2 sB : Sg} {ww : World} {ks : ByteArray} {n : Nat} (h : Pair lo P A B sA sB ww) (hR : RunP ks.data.toList sA n sA2) (hz : ks.size ≤ 100000) :
  Calls Tryz.prog 17 #[.pointer (some ⟨A.q, 0, none⟩), .string ks] ww fun e w' => e = .returned (.int .i64 (n : Nat)) ∧ Pair lo P A B sA2 sB w' ∧ Kept lo P ww w' := by
 obtain ⟨OA, OB, h1, h2, h3, h4, h5, h6, h7, h8, h9, h10⟩ := h
 refine Calls.mono (runTypeB hR qo h1 ww h7 h2) ?_
 rintro e w' ⟨rfl, M⟩
 have u := M.up
 have z := u.size
 have u2 : Upd (A.bs OA) ww w' := u
 obtain ⟨O2, o2, X2, M2⟩ := M.rebase h1 (Below.refl _ _)
 obtain ⟨XB, MB⟩ := MemS.apart h3 h4 u (fun k hk => h5 k hk)
 have mem : ∀ k, k ∈ A.bs O2 → k ∈ A.bs OA ∨ (ww.heap.size ≤ k ∧ k < w'.heap.size) := by
  intro k hk
  rcases in4 hk with h | h | h | h | h
  ·left; unfold Pl.bs; simp [h]
  ·left; unfold Pl.bs; simp [h]
  ·left; unfold Pl.bs; simp [h]
  ·left; unfold Pl.bs; simp [h]
  ·rcases (o2 k h).2.2 with g | g
   ·left; unfold Pl.bs; simp [g]
   ·right; exact ⟨g, (o2 k h).1⟩
 have lq : A.q < ww.heap.size := World.block_lt_of_cell? ww ⟨A.q, 0, none⟩ h7
 have lQ : B.q < ww.heap.size := World.block_lt_of_cell? ww ⟨B.q, 0, none⟩ h8
 refine ⟨rfl, ⟨O2, OB, X2, M2, XB, MB, ?_, ?_, u2.was h7 (fun h => (h6 _ (Or.inl h)).2.2.1 rfl), u2.was h8 (fun h => (h6 _ (Or.inl h)).2.2.2.1 rfl), fun k hk => Nat.lt_of_lt_of_le (h9 k hk) z, by omega⟩, A.bs OA, u2, fun k hk => ⟨(h6 k (Or.inl hk)).1, (h6 k (Or.inl hk)).2.1⟩⟩
 ·intro k hk hB
  rcases mem k hk with g | g
  ·exact h5 k g hB
  ·have := (h6 k (Or.inr hB)).2.2.2.2; omega
 ·intro k hk
  have old : k ∈ A.bs OA ∨ k ∈ B.bs OB → lo ≤ k ∧ k ∉ P ∧ k ≠ A.q ∧ k ≠ B.q ∧ k < w'.heap.size := by
   intro g
   obtain ⟨a1, a2, a3, a4, a5⟩ := h6 k g
   exact ⟨a1, a2, a3, a4, by omega⟩
  rcases hk with hk | hk
  ·rcases mem k hk with g | g
   ·exact old (Or.inl g)
   ·exact ⟨by omega, fun h => by have := h9 k h; omega, by omega, by omega, g.2⟩
  ·exact old (Or.inr hk)
theorem qt94 {P : Prop} (h : P := by
  intro k hk
  rcases in4 hk with h | h | h | h | h
  ·unfold Pl.bs; simp [h]
  ·unfold Pl.bs; simp [h]
  ·unfold Pl.bs; simp [h]
  ·unfold Pl.bs; simp [h]
  ·have g1 := (a2 k h).1
   rcases (a2 k h).2.2 with g | g
   ·unfold Pl.bs; simp [g]
   ·omega
 ) : P := h
theorem qt95 {P : Prop} (h : P := by
  intro k hk
  rcases in4 hk with h | h | h | h | h
  ·unfold Pl.bs; simp [h]
  ·unfold Pl.bs; simp [h]
  ·unfold Pl.bs; simp [h]
  ·unfold Pl.bs; simp [h]
  ·have g1 := (b2 k h).1
   rcases (b2 k h).2.2 with g | g
   ·unfold Pl.bs; simp [g]
   ·omega
 ) : P := h
theorem Pair.later {lo : Nat} {P : List Nat} {A B : Pl} {sA sB : Sg} {ww v : World} (h : Pair lo P A B sA sB ww) (hb : Below ww.heap.size ww v) : Pair lo P A B sA sB v := by
 obtain ⟨OA, OB, h1, h2, h3, h4, h5, h6, h7, h8, h9, h10⟩ := h
 have z := hb.size
 obtain ⟨A2, a2, X2, M2⟩ := h2.rebase h1 hb
 obtain ⟨B2, b2, Y2, N2⟩ := h4.rebase h3 hb
 have mA : ∀ k, k ∈ A.bs A2 → k ∈ A.bs OA := by
  exact qt94
 have mB : ∀ k, k ∈ B.bs B2 → k ∈ B.bs OB := by
  exact qt95
 refine ⟨A2, B2, X2, M2, Y2, N2, fun k hk h => h5 k (mA k hk) (mB k h), fun k hk => ?_, memLater hb h7, memLater hb h8, fun k hk => Nat.lt_of_lt_of_le (h9 k hk) z, by omega⟩
 obtain ⟨c1, c2, c3, c4, c5⟩ := h6 k (hk.imp (mA k) (mB k))
 exact ⟨c1, c2, c3, c4, by omega⟩
theorem Pair.own {lo : Nat} {P : List Nat} {A B : Pl} {sA sB : Sg} {ww v : World} (h : Pair lo P A B sA sB ww) (hb : Below ww.heap.size ww v) (k : Nat) (h1 : ww.heap.size ≤ k) (h2 : k < v.heap.size) : Pair lo (k :: P) A B sA sB v := by
 have hs := h
 obtain ⟨_, _, _, _, _, _, _, g6, _⟩ := hs
 obtain ⟨OA, OB, e1, e2, e3, e4, e5, e6, e7, e8, e9, e10⟩ := h
 have z := hb.size
 obtain ⟨A2, a2, X2, M2⟩ := e2.rebase e1 hb
 obtain ⟨B2, b2, Y2, N2⟩ := e4.rebase e3 hb
 have mA : ∀ k, k ∈ A.bs A2 → k ∈ A.bs OA := by
  exact qt94
 have mB : ∀ k, k ∈ B.bs B2 → k ∈ B.bs OB := by
  exact qt95
 refine ⟨A2, B2, X2, M2, Y2, N2, fun k hk h => e5 k (mA k hk) (mB k h), fun j hj => ?_, memLater hb e7, memLater hb e8, fun j hj => ?_, by omega⟩
 ·obtain ⟨c1, c2, c3, c4, c5⟩ := e6 j (hj.imp (mA j) (mB j))
  refine ⟨c1, fun h => ?_, c3, c4, by omega⟩
  rcases List.mem_cons.1 h with h | h
  ·omega
  ·exact c2 h
 ·rcases List.mem_cons.1 hj with h | h
  ·omega
  ·exact Nat.lt_of_lt_of_le (e9 j h) z
theorem Pair.state {lo : Nat} {P : List Nat} {A B : Pl} {sA sB : Sg} {ww : World} (h : Pair lo P A B sA sB ww) :
  qC 18 #[.pointer (some ⟨A.q, 0, none⟩)] ww (.agg #[.string sA.p.t, .int .i64 (sA.p.pl : Nat), .int .i64 (sA.p.anchor : Nat), .int .i64 sA.p.mode, .bool (waits sA.p)]) := by
 obtain ⟨OA, OB, e1, e2, e3, e4, e5, e6, e7, e8, e9, e10⟩ := h
 exact e2.state e7
theorem Pair.new {w1 w2 w3 w4 : World} {q b r d m Q B R D M : Nat} {t : ByteArray} {lo : Nat} (N2 : New7 w1 w2 q b r d m t) (N3 : New7 w2 w3 Q B R D M t) (g3 : Below w2.heap.size w2 w3) (g4 : Below w3.heap.size w3 w4) (hl : lo ≤ w1.heap.size) : Pair lo [] ⟨q, b, r, d, m⟩ ⟨Q, B, R, D, M⟩ (sg0 t) (sg0 t) w4 := by
 obtain ⟨fl, fh, fq, ca, cb, Xa, Ma, Xb, Mb⟩ := twoNew N2 N3 g3 g4
 unfold Five5 at fl fh
 refine ⟨[], [], Xa, Ma, Xb, Mb, fun k hk h => ?_, fun k hk => ?_, ca, cb, fun k hk => by simp at hk, by omega⟩
 ·have h1 := in4 hk; have h2 := in4 h
  simp only [List.not_mem_nil, or_false] at h1 h2
  omega
 ·refine ⟨?_, by simp, (?_ : k ≠ q), (?_ : k ≠ Q), ?_⟩
  all_goals
   rcases hk with h | h
   all_goals
    have h1 := in4 h
    simp only [List.not_mem_nil, or_false] at h1
    omega
def cut20 (s : ByteArray) : ByteArray := if 20 < s.size then s.extract 0 20 else s
theorem cut20_size (s : ByteArray) : (cut20 s).size ≤ 20 := by
 unfold cut20
 split
 ·rw [ByteArray.size_extract]; omega
 ·omega
theorem kUpTo20 (s : ByteArray) (w : World) :
  qC 16 #[.string s, .int .i64 20] w (.string (cut20 s)) := by
 unfold cut20
 by_cases h : 20 < s.size
 ·rw [if_pos h]
  have h1 : (20 : Int) < ((s.size : Nat) : Int) := by omega
  have h2 : (20 : Int) ≤ ((s.size : Nat) : Int) := by omega
  go_enter func16, ntmps16
  go_wp2
  exact qV (.string (s.extract 0 20)) (by simp [results, results16, go_sem]) rfl
 ·rw [if_neg h]
  have h1 : ¬ (20 : Int) < ((s.size : Nat) : Int) := by omega
  go_enter func16, ntmps16
  go_wp2
  exact qV (.string s) (by simp [results, results16, go_sem]) rfl
def tlS (word : ByteArray) (mode : Int) : ByteArray := if mode = 1 then word ++ ⟨#[27]⟩ else ⟨#[]⟩
theorem kTail (doing word : ByteArray) (mode : Int) (w : World) (hs : mode = 1 → word.size ≤ 1000) :
  qC 23 #[.string doing, .string word, .int .i64 mode] w (.string (tlS word mode)) := by
 unfold tlS
 by_cases h : mode = 1
 ·rw [if_pos h]
  have h1 : (mode == 1) = true := by simp [h]
  have hs := hs h
  clear h
  have hz : (⟨#[27]⟩ : ByteArray).size = 1 := rfl
  go_enter func23, ntmps23
  go_wp2
  exact qV (.string (word ++ ⟨#[27]⟩)) (by simp [results, results23, go_sem]) rfl
 ·rw [if_neg h]
  have h1 : (mode == 1) = false := by simp [h]
  clear h hs
  go_enter func23, ntmps23
  go_wp2
  exact qV (.string ⟨#[]⟩) (by simp [results, results23, go_sem]) rfl
theorem hasB_no {s : ByteArray} (h : hasB s 27 = false) : ∀ k, k ∈ s.data.toList → ¬ (k.toNat : Int) = 27 := by
 intro k hk e
 unfold hasB at h
 have h1 : ¬ Nib.up (fun i => !(bt s i == 27)) s.size 0 < s.size := of_decide_eq_false h
 obtain ⟨i, hi, hik⟩ := List.getElem_of_mem hk
 have hi2 : i < s.size := by rw [Array.length_toList] at hi; exact hi
 have h2 := up_all (c := fun i => !(bt s i == 27)) (n := s.size) (p := 0) (i := i) (Nat.zero_le _) qo
 have h3 : bt s i = 27 := by
  rw [bt_in hi2]
  have : s[i]'hi2 = k := hik
  rw [this]; exact e
 simp [h3] at h2
theorem toRest (HA : AnyOk) (t ks : ByteArray) (ht : t.size ≤ 1000) (hk : ks.size ≤ 300) : ∃ n1 s1 n2 s2, RunP ks.data.toList (sg0 t) n1 s1 ∧ RunP (⟨#[27, 27]⟩ : ByteArray).data.toList s1 n2 s2 ∧ InvP (ks.size + 2) s2 ∧ Rest s2 := by
 have hkl : ks.data.toList.length = ks.size := by rw [Array.length_toList]; rfl
 obtain ⟨n1, s1, h1, i1⟩ := RunP.ex HA ks.data.toList 0 (sg0 t) (sg0_inv t ht) qo
 rw [Nat.zero_add, hkl] at i1
 obtain ⟨O, s2, h2, i2, _⟩ := escU s1 27 rfl i1 qo
 obtain ⟨O3, s3, h3, i3, r3⟩ := escU s2 27 rfl i2 qo
 exact ⟨n1, s1, _, s3, h1, ⟨O, s2, _, h2, ⟨O3, s3, 0, h3, ⟨rfl, rfl⟩, rfl⟩, rfl⟩, i3, r3⟩
def vS (j : Nat) : ByteArray := ⟨(vK j).toArray⟩
def yS (i : Nat) : ByteArray := ⟨(yU i ++ [yC i]).toArray⟩
theorem dS (j i : Nat) : (vS j ++ yS i).data.toList = dK j i := by
 unfold vS yS dK
 rw [ByteArray.data_append]
 simp
theorem vS_size (j : Nat) : (vS j).size ≤ 3 := by
 have := vK_len j
 show (vK j).toArray.size ≤ 3
 simpa using this
theorem yS_size (i : Nat) : (yS i).size ≤ 2 := by
 have := yU_len i
 show (yU i ++ [yC i]).toArray.size ≤ 2
 simp
 omega
theorem act2 (HA : AnyOk) {N : Nat} (s : Sg) (inv : InvP N s) (hN : N ≤ 50000) (hr : Rest s) (j i : Nat) (hj : j < 8) (hi : i < 12) (js : List UInt8) (hjl : js.length ≤ 20) (hjs : ∀ k, k ∈ js → ¬ (k.toNat : Int) = 27) :
  (∃ s2, RunP (dK j i) s 1 s2 ∧ InvP (N + 11) s2 ∧ ∀ is, ∃ p2 f2, RunT (dK j i ++ is) s.p s.f 4 p2 f2 ∧ GoodP p2 ∧ p2.now = s.p.now ∧ ¬ p2.mode = 1 ∧ Seen s.p p2 ∧ p2.none' = p2) ∨
  (¬ vV j = 99 ∧ ∃ s2 p2 f2, RunP (dK j i) s 0 s2 ∧ InvP (N + 11) s2 ∧ Rest s2 ∧ s2.dg = ⟨(dK j i).toArray⟩ ∧ RunT (dK j i) s.p s.f 1 p2 f2 ∧ GoodP p2 ∧ p2.now = s.p.now ∧ ¬ p2.mode = 1 ∧ s2.p = { p2 with now := p2.t }) ∨
  (vV j = 99 ∧ ∃ s1 s2 p2 f2, RunP (dK j i) s 0 s1 ∧ InvP (N + 11) s1 ∧ s1.p.mode = 1 ∧ RunP (js ++ [27]) s1 0 s2 ∧ InvP (N + 32) s2 ∧ Rest s2 ∧ s2.dg = ⟨(dK j i ++ (js ++ [27])).toArray⟩ ∧ RunT (dK j i ++ (js ++ [27])) s.p s.f 1 p2 f2 ∧ GoodP p2 ∧ p2.now = s.p.now ∧ ¬ p2.mode = 1 ∧ s2.p = { p2 with now := p2.t }) := by
 obtain ⟨q, h1, h2, h3, h4⟩ := doingOk s.p hr.2.1 j i hj hi
 have hv : isV5 q.verb ∨ q.verb = 99 := by rw [h4]; have := vV_all j; unfold isV5; omega
 have hl : (vK j ++ yU i).length ≤ 10 := by have := vK_len j; have := yU_len i; simp; omega
 rcases act HA s inv hN hr (vK j ++ yU i) (yC i) q js hl hjl h1 h2 h3 hv hjs with ⟨s2, a1, a2, a3⟩ | ⟨a0, s2, p2, f2, a1, a2, a3, a4, a5, a6, a7, a8, a9, b1, b2⟩ | ⟨a0, s1, s2, p2, f2, a1, a2, a3, a4, a5, a6, a7, a8, a9, b0, b1, b2, b3, b4⟩
 ·refine Or.inl ⟨s2, a1, a2, fun is => ?_⟩
  obtain ⟨p2, f2, c1, c2, c3, c4, c5, c6, c7⟩ := a3 is
  refine ⟨p2, f2, ?_, c2, c5, c6, c7, c4⟩
  unfold dK
  rw [List.append_assoc]
  exact c1
 ·refine Or.inr (Or.inl ⟨?_, s2, p2, f2, a1, a2, a3, a4, a5, a6, a9, b1, b2⟩)
  rw [h4] at a0
  unfold isV5 at a0
  omega
 ·exact Or.inr (Or.inr ⟨by rw [← h4]; exact a0, s1, s2, p2, f2, a1, a2, a3, a4, a5, a6, a7, a8, a9, b2, b3, b4⟩)
theorem dK_len (j i : Nat) : 0 < (dK j i).length ∧ (dK j i).length ≤ 5 := by
 have := vK_len j; have := yU_len i
 unfold dK
 simp
 omega
theorem Seen.of {p p2 : Pg} (h : Seen p p2) : Seen p { p2 with now := p2.t } := h
theorem again0 (HA : AnyOk) {N : Nat} (s : Sg) (inv : InvP N s) (hN : N ≤ 50000) (hr : Rest s) (j i : Nat) (hj : j < 8) (hi : i < 12) (hv : ¬ vV j = 99) (hd : s.dg = ⟨(dK j i).toArray⟩) :
  (∃ sa sb, PrC s 46 4 sa ∧ Seen s.p sa.p ∧ RunP (dK j i) s 1 sb) ∨ (∃ sa sb, PrC s 46 1 sa ∧ RunP (dK j i) s 0 sb ∧ sa.p = sb.p) := by
 have hl := dK_len j i
 rcases act2 HA s inv hN hr j i hj hi [] qi qi with ⟨s2, a1, a2, a3⟩ | ⟨a0, s2, p2, f2, a1, a2, a3, a4, a5, a6, a7, a8, a9⟩ | ⟨a0, _⟩
 ·obtain ⟨p2, f2, c1, c2, c3, c4, c5, c6⟩ := a3 []
  rw [List.append_nil] at c1
  obtain ⟨sa, d1, d2⟩ := dotRun inv qo hr (dK j i) hd hl.1 qo c1 (Or.inr rfl) c2 c3 c4
  exact Or.inl ⟨sa, s2, d1, by rw [d2]; exact c5.of, a1⟩
 ·obtain ⟨sa, d1, d2⟩ := dotRun inv qo hr (dK j i) hd hl.1 qo a5 (Or.inl rfl) a6 a7 a8
  exact Or.inr ⟨sa, s2, d1, a1, by rw [d2, a9]⟩
 ·exact absurd a0 hv
theorem again1 (HA : AnyOk) {N : Nat} (s : Sg) (inv : InvP N s) (hN : N ≤ 50000) (hr : Rest s) (j i : Nat) (hj : j < 8) (hi : i < 12) (hv : vV j = 99) (js : List UInt8) (hjl : js.length ≤ 20) (hjs : ∀ k, k ∈ js → ¬ (k.toNat : Int) = 27) (hd : s.dg = ⟨(dK j i ++ (js ++ [27])).toArray⟩) :
  (∃ sa sb, PrC s 46 4 sa ∧ Seen s.p sa.p ∧ RunP (dK j i) s 1 sb) ∨ (∃ sa sm sb, PrC s 46 1 sa ∧ RunP (dK j i) s 0 sm ∧ RunP (js ++ [27]) sm 0 sb ∧ sa.p = sb.p) := by
 have hl := dK_len j i
 have hl2 : (dK j i ++ (js ++ [27])).length ≤ 1000 := by simp; omega
 have hl3 : 0 < (dK j i ++ (js ++ [27])).length := by simp; omega
 rcases act2 HA s inv hN hr j i hj hi js hjl hjs with ⟨s2, a1, a2, a3⟩ | ⟨a0, _⟩ | ⟨_, s1, s2, p2, f2, a1, a2, a3, a4, a5, a6, a7, a8, a9, b2, b3, b4⟩
 ·obtain ⟨p2, f2, c1, c2, c3, c4, c5, c6⟩ := a3 (js ++ [27])
  obtain ⟨sa, d1, d2⟩ := dotRun inv qo hr _ hd hl3 hl2 c1 (Or.inr rfl) c2 c3 c4
  exact Or.inl ⟨sa, s2, d1, by rw [d2]; exact c5.of, a1⟩
 ·exact absurd hv a0
 ·obtain ⟨sa, d1, d2⟩ := dotRun inv qo hr _ hd hl3 hl2 a8 (Or.inl rfl) a9 b2 b3
  exact Or.inr ⟨sa, s1, s2, d1, a1, a4, by rw [d2, b4]⟩
theorem kPickS (c : Int) (n : Nat) (w : World) (h1 : -9223372036854775808 ≤ c) (h2 : c ≤ 9223372036854775807) (hn : 0 < n) (hn2 : n ≤ 1000) :
  ∃ k : Nat, k < n ∧ ∀ ww, Calls Tryz.prog 22 #[.int .i64 c, .int .i64 (n : Nat)] ww fun e w' => e = .returned (.int .i64 (k : Nat)) ∧ w' = ww := by
 by_cases hc : c < 0
 ·refine ⟨(-(c + 1)).toNat % n, Nat.mod_lt _ hn, fun w => ?_⟩
  have hm : ((((-(c + 1)).toNat % n : Nat) : Int)) = -((c + 1).tmod (n : Int)) := by
   rw [← Int.neg_tmod, Int.natCast_emod, Int.toNat_of_nonneg qo, Int.tmod_eq_emod_of_nonneg qo]
  have w1 : IntKind.i64.wrap (c + 1) = c + 1 := by unfold IntKind.wrap; simp [IntKind.bits, IntKind.signed]; omega
  have w2 : IntKind.i64.wrap (-(c + 1)) = -(c + 1) := by unfold IntKind.wrap; simp [IntKind.bits, IntKind.signed]; omega
  have hn0 : ((n : Nat) : Int) ≠ 0 := by omega
  rw [hm]
  go_enter func22, ntmps22
  go_wp2
  go_ret
  exact ⟨rfl, rfl⟩
 ·refine ⟨c.toNat % n, Nat.mod_lt _ hn, fun w => ?_⟩
  have hm : (((c.toNat % n : Nat) : Int)) = c % (n : Int) := by
   rw [Int.natCast_emod, Int.toNat_of_nonneg qo]
  have hn0 : ((n : Nat) : Int) ≠ 0 := by omega
  rw [hm]
  go_enter func22, ntmps22
  go_wp2
  go_ret
  exact ⟨rfl, rfl⟩
abbrev zV : Obj := .cells #[.string ⟨#[100]⟩, .string ⟨#[99]⟩, .string ⟨#[62]⟩, .string ⟨#[60]⟩, .string ⟨#[103, 117]⟩, .string ⟨#[103, 85]⟩, .string ⟨#[34, 97, 100]⟩, .string ⟨#[50, 99]⟩] 40
abbrev zY : Obj := .cells #[.string ⟨#[119]⟩, .string ⟨#[101]⟩, .string ⟨#[98]⟩, .string ⟨#[36]⟩, .string ⟨#[105, 119]⟩, .string ⟨#[97, 119]⟩, .string ⟨#[50, 108]⟩, .string ⟨#[104]⟩, .string ⟨#[105, 112]⟩, .string ⟨#[105, 40]⟩, .string ⟨#[48]⟩, .string ⟨#[125]⟩] 41
theorem arrs (w : World) {J I : Nat} (hJ : J < 8) (hI : I < 12) : ((w.alloc zV).alloc zY).cell? ⟨w.heap.size, J, none⟩ = some (.string (vS J)) ∧ ((w.alloc zV).alloc zY).cell? ⟨w.heap.size + 1, I, none⟩ = some (.string (yS I)) ∧ Below w.heap.size w ((w.alloc zV).alloc zY) ∧ ((w.alloc zV).alloc zY).heap.size = w.heap.size + 2 := by
 refine ⟨memLater ((Below.refl _ _).alloc (Nat.le_refl _) _) ?_, ?_, ?_, by simp⟩
 ·match J, hJ with
  | 0, _ => simp [vS, vK]
  | 1, _ => simp [vS, vK]
  | 2, _ => simp [vS, vK]
  | 3, _ => simp [vS, vK]
  | 4, _ => simp [vS, vK]
  | 5, _ => simp [vS, vK]
  | 6, _ => simp [vS, vK]
  | 7, _ => simp [vS, vK]
 ·match I, hI with
  | 0, _ => simp [yS, yU, yC]
  | 1, _ => simp [yS, yU, yC]
  | 2, _ => simp [yS, yU, yC]
  | 3, _ => simp [yS, yU, yC]
  | 4, _ => simp [yS, yU, yC]
  | 5, _ => simp [yS, yU, yC]
  | 6, _ => simp [yS, yU, yC]
  | 7, _ => simp [yS, yU, yC]
  | 8, _ => simp [yS, yU, yC]
  | 9, _ => simp [yS, yU, yC]
  | 10, _ => simp [yS, yU, yC]
  | 11, _ => simp [yS, yU, yC]
 ·repeat exact qB
theorem St5.later' {w w' : World} {b : Nat} {s : ByteArray} {p a m : Int} {l : Bool} (h : St5 w b s p a m l) (g : Below w.heap.size w w') : St5 w' b s p a m l := h.later g
theorem St5.kept {lo : Nat} {P : List Nat} {w w' : World} {b : Nat} {s : ByteArray} {p a m : Int} {l : Bool} (h : St5 w b s p a m l) (k : Kept lo P w w') (hb : b ∈ P) : St5 w' b s p a m l := ⟨k.was hb h.c0, k.was hb h.c1, k.was hb h.c2, k.was hb h.c3, k.was hb h.c4⟩
theorem again0' (HA : AnyOk) {N : Nat} (s : Sg) (inv : InvP N s) (hN : N ≤ 50000) (hr : Rest s) (j i : Nat) (hj : j < 8) (hi : i < 12) (hv : ¬ vV j = 99) (hd : s.dg = ⟨(dK j i).toArray⟩) :
  (∃ sa sb, PrC s 46 4 sa ∧ Seen s.p sa.p ∧ RunP (dK j i) s 1 sb) ∨ (∃ sa sm sb, PrC s 46 1 sa ∧ RunP (dK j i) s 0 sm ∧ RunP (⟨#[]⟩ : ByteArray).data.toList sm 0 sb ∧ sa.p = sb.p) := by
 rcases again0 HA s inv hN hr j i hj hi hv hd with h | ⟨sa, sb, h1, h2, h3⟩
 ·exact Or.inl h
 ·exact Or.inr ⟨sa, sb, sb, h1, h2, ⟨rfl, rfl⟩, h3⟩
theorem qt97 {P : Prop} (h : P := by
  rcases HX with HX | HX
  ·obtain ⟨sa, sb, q1, q2, q3⟩ := HX
   have Rd : RunP (⟨#[46]⟩ : ByteArray).data.toList x1 1 sa := ⟨4, sa, 0, q1, ⟨rfl, rfl⟩, rfl⟩
   go_wp2_with fail
   refine Calls.mono (PV.type (ks := ⟨#[46]⟩) Rd qd) ?_
   rintro e w13 ⟨rfl, P13, K13⟩
   have B13 := BV.trans (K13.below BV.size)
   have d3 := K13.was qi c3
   have z13 := B13.size
   clear Rd PV K13 BV c3
   go_wp2_with fail
   refine Calls.mono P13.symm.state ?_
   rintro e w14 ⟨rfl, g14⟩
   have z14 := g14.size
   have g14' : Below w13.heap.size w13 (w14.alloc (.cells #[.string x1.p.t, .int .i64 (x1.p.pl : Nat), .int .i64 (x1.p.anchor : Nat), .int .i64 x1.p.mode, .bool (waits x1.p)] 32)) := by
    repeat exact qB
   have zT : (w14.alloc (.cells #[.string x1.p.t, .int .i64 (x1.p.pl : Nat), .int .i64 (x1.p.anchor : Nat), .int .i64 x1.p.mode, .bool (waits x1.p)] 32)).heap.size = w14.heap.size + 1 := by simp
   have P14 := P13.own g14' w14.heap.size g14.size qo
   have T14 := St5.new w14 x1.p.t (x1.p.pl : Nat) (x1.p.anchor : Nat) x1.p.mode (waits x1.p) 32
   have d4 := memLater g14' d3
   have B14 := B13.trans (g14'.mono B13.size)
   clear d3 g14 g14' P13 B13
   go_wp2_with fail
   refine Calls.mono (HT.out _) ?_
   rintro e w15 ⟨rfl, g15⟩
   have z15 := g15.size
   have P15 := P14.later g15
   have T15 := T14.later' g15
   have d5 := memLater g15 d4
   have B15 := B14.trans (g15.mono B14.size)
   clear P14 T14 d4 g15 B14
   go_wp2_with fail
   refine Calls.mono (P15.symm.type (by rw [y2.out, hds]; exact q3) (by rw [y2.out]; omega)) ?_
   rintro e w16 ⟨rfl, P16, K16⟩
   have B16 := B15.trans (K16.below B15.size)
   have z16 := B16.size
   have T16 := T15.kept K16 qi
   clear P15 T15 d5 K16 B15 HT
   have HE : ∀ ww : World, (binOp .eql 32 (.agg #[.string x1.p.t, .int .i64 (x1.p.pl : Nat), .int .i64 (x1.p.anchor : Nat), .int .i64 x1.p.mode, .bool (waits x1.p)]) (.agg #[.string x1.p.t, .int .i64 (x1.p.pl : Nat), .int .i64 (x1.p.anchor : Nat), .int .i64 x1.p.mode, .bool (waits x1.p)])).run Tryz.prog ww = .ok (.bool true) ww := fun ww => eql_stateK _ _ _ _ _ ww
   obtain ⟨e1, e2, e3, e4, e5⟩ := q2
   have HSa := (P16.symm.later ((Below.refl _ _).drew)).state
   rw [e1, e2, e3, e4, e5] at HSa
   go_wp2_with fail
   refine wp_region_held_drew (S := fun ww => ww.cell? ⟨w14.heap.size, 0, none⟩ = some (.string x1.p.t) ∧ ww.cell? ⟨w14.heap.size, 1, none⟩ = some (.int .i64 (x1.p.pl : Nat)) ∧ ww.cell? ⟨w14.heap.size, 2, none⟩ = some (.int .i64 (x1.p.anchor : Nat)) ∧ ww.cell? ⟨w14.heap.size, 3, none⟩ = some (.int .i64 x1.p.mode) ∧ ww.cell? ⟨w14.heap.size, 4, none⟩ = some (.bool (waits x1.p))) qk ?_ (fun hHeld => ?_)
   ·exact ⟨memLater ((Below.refl _ _).drew) T16.c0, memLater ((Below.refl _ _).drew) T16.c1, memLater ((Below.refl _ _).drew) T16.c2, memLater ((Below.refl _ _).drew) T16.c3, memLater ((Below.refl _ _).drew) T16.c4⟩
   refine qT 0 ?_
   simp only [Act.put, qP]
   refine qT 1 ?_
   simp only [Act.put, qP]
   refine qT 2 ?_
   simp only [Act.put, qP]
   refine qT 3 ?_
   simp only [Act.put, qP]
   refine qT 5 ?_
   simp only [Act.put, qP]
   refine qR 4 fun K hK => ?_
   rw [if_pos (by rfl)]
   go_wp2_with fail
   refine Calls.mono (HSa) ?_
   rintro e w17 ⟨rfl, g17⟩
   go_wp2_with fail
   refine hK.out _ _ ?_ (fun hHeld => ?_)
   ·exact ⟨memLater g17 (memLater ((Below.refl _ _).drew) T16.c0), memLater g17 (memLater ((Below.refl _ _).drew) T16.c1), memLater g17 (memLater ((Below.refl _ _).drew) T16.c2), memLater g17 (memLater ((Below.refl _ _).drew) T16.c3), memLater g17 (memLater ((Below.refl _ _).drew) T16.c4)⟩
   clear hK K
   try simp only [Act.put, qP]
   refine qT 6 ?_
   simp only [Act.put, qP]
   refine qT 7 ?_
   simp only [Act.put, qP]
   refine qT 8 ?_
   simp only [Act.put, qP]
   refine wpAnyH_done qk ?_ _
   go_wp2
   go_ret
   refine ⟨rfl, ?_⟩
   repeat exact qB
  ·obtain ⟨sa, sm, sb, q1, q3, q4, q5⟩ := HX
   have Rd : RunP (⟨#[46]⟩ : ByteArray).data.toList x1 0 sa := ⟨1, sa, 0, q1, ⟨rfl, rfl⟩, rfl⟩
   go_wp2_with fail
   refine Calls.mono (PV.type (ks := ⟨#[46]⟩) Rd qd) ?_
   rintro e w13 ⟨rfl, P13, K13⟩
   have B13 := BV.trans (K13.below BV.size)
   have d3 := K13.was qi c3
   have z13 := B13.size
   clear Rd PV K13 BV c3
   go_wp2_with fail
   refine Calls.mono P13.symm.state ?_
   rintro e w14 ⟨rfl, g14⟩
   have z14 := g14.size
   have g14' : Below w13.heap.size w13 (w14.alloc (.cells #[.string x1.p.t, .int .i64 (x1.p.pl : Nat), .int .i64 (x1.p.anchor : Nat), .int .i64 x1.p.mode, .bool (waits x1.p)] 32)) := by
    repeat exact qB
   have zT : (w14.alloc (.cells #[.string x1.p.t, .int .i64 (x1.p.pl : Nat), .int .i64 (x1.p.anchor : Nat), .int .i64 x1.p.mode, .bool (waits x1.p)] 32)).heap.size = w14.heap.size + 1 := by simp
   have P14 := P13.own g14' w14.heap.size g14.size qo
   have T14 := St5.new w14 x1.p.t (x1.p.pl : Nat) (x1.p.anchor : Nat) x1.p.mode (waits x1.p) 32
   have d4 := memLater g14' d3
   have B14 := B13.trans (g14'.mono B13.size)
   clear d3 g14 g14' P13 B13
   go_wp2_with fail
   refine Calls.mono (HT.out _) ?_
   rintro e w15 ⟨rfl, g15⟩
   have z15 := g15.size
   have P15 := P14.later g15
   have T15 := T14.later' g15
   have d5 := memLater g15 d4
   have B15 := B14.trans (g15.mono B14.size)
   clear P14 T14 d4 g15 B14
   go_wp2_with fail
   refine Calls.mono (P15.symm.type (by rw [y2.out, hds]; exact q3) (by rw [y2.out]; omega)) ?_
   rintro e w16 ⟨rfl, P16, K16⟩
   have B16 := B15.trans (K16.below B15.size)
   have z16 := B16.size
   have d6 := K16.was qi d5
   clear P15 T15 d5 K16 B15
   go_wp2_with fail
   refine Calls.mono (HT.out _) ?_
   rintro e w17 ⟨rfl, g17⟩
   have z17 := g17.size
   have P17 := P16.later g17
   have B17 := B16.trans (g17.mono B16.size)
   clear P16 d6 g17 B16 HT
   go_wp2_with fail
   refine Calls.mono (P17.type (ks := tl) q4 qo) ?_
   rintro e w18 ⟨rfl, P18, K18⟩
   have B18 := B17.trans (K18.below B17.size)
   have z18 := B18.size
   clear P17 K18 B17
   have HE : ∀ ww : World, (binOp .eql 32 (.agg #[.string sb.p.t, .int .i64 (sb.p.pl : Nat), .int .i64 (sb.p.anchor : Nat), .int .i64 sb.p.mode, .bool (waits sb.p)]) (.agg #[.string sb.p.t, .int .i64 (sb.p.pl : Nat), .int .i64 (sb.p.anchor : Nat), .int .i64 sb.p.mode, .bool (waits sb.p)])).run Tryz.prog ww = .ok (.bool true) ww := fun ww => eql_stateK _ _ _ _ _ ww
   have HSa := P18.symm.state
   rw [q5] at HSa
   go_wp2_with fail
   refine Calls.mono HSa ?_
   rintro e w19 ⟨rfl, g19⟩
   have z19 := g19.size
   have P19 := P18.later g19
   go_wp2_with fail
   refine Calls.mono P19.state ?_
   rintro e w20 ⟨rfl, g20⟩
   go_wp2
   go_ret
   refine ⟨rfl, ?_⟩
   repeat exact qB
 ) : P := h
theorem kAgain (HA : AnyOk) (text keys : ByteArray) (verb way : Int) (word : ByteArray) (w : World) (v1 : -9223372036854775808 ≤ verb) (v2 : verb ≤ 9223372036854775807) (y1 : -9223372036854775808 ≤ way) (y2 : way ≤ 9223372036854775807) :
  qC 9 #[.string text, .string keys, .int .i64 verb, .int .i64 way, .string word] w (.bool true) := by
 have HK : qH 14 #[] (.bool true) := fun ww => kKnown ww
 have HO : Hid (∀ ww, Calls Tryz.prog 15 #[.string text] ww fun e w' => ∃ q b r d m : Nat, e = .returned (.pointer (some ⟨q, 0, none⟩)) ∧ New7 ww w' q b r d m (cut3 text) ∧ Below ww.heap.size ww w') := fun ww => kOpened text ww
 have HU2 : qH 16 #[.string keys, .int .i64 300] (.string (cut3 keys)) := fun ww => kUpTo keys ww
 have HU3 : qH 16 #[.string word, .int .i64 20] (.string (cut20 word)) := fun ww => kUpTo20 word ww
 obtain ⟨J, hJ, HP1⟩ := kPickS verb 8 w v1 v2 qd qd
 obtain ⟨I, hI, HP2⟩ := kPickS way 12 w y1 y2 qd qd
 have HP1 : Hid (∀ ww, Calls Tryz.prog 22 #[.int .i64 verb, .int .i64 8] ww fun e w' => e = .returned (.int .i64 (J : Nat)) ∧ w' = ww) := HP1
 have HP2 : Hid (∀ ww, Calls Tryz.prog 22 #[.int .i64 way, .int .i64 12] ww fun e w' => e = .returned (.int .i64 (I : Nat)) ∧ w' = ww) := HP2
 have ht := cut3_size text
 have hk := cut3_size keys
 have hw := cut20_size word
 generalize cut3 text = t at *
 generalize cut3 keys = ks at *
 generalize cut20 word = wd at *
 obtain ⟨n1, s1, n2, s2, R1, R2, inv2, rest2⟩ := toRest HA t ks qo hk
 go_enter func9, ntmps9
 go_wp2_with fail
 refine Calls.mono (HK.out _) ?_
 rintro e w1 ⟨rfl, g1⟩
 have z1 := g1.size
 go_wp2_with fail
 refine Calls.mono (HO.out _) ?_
 rintro e w2 ⟨q, b, r, d, m, rfl, N2, g2⟩
 have z2 := g2.size
 go_wp2_with fail
 refine Calls.mono (HO.out _) ?_
 rintro e w3 ⟨Q, B, R, D, M, rfl, N3, g3⟩
 have z3 := g3.size
 go_wp2_with fail
 refine Calls.mono (HU2.out _) ?_
 rintro e w4 ⟨rfl, g4⟩
 have z4 := g4.size
 have B4 : Below w.heap.size w w4 := by
  repeat exact qB
 have P4 := Pair.new (lo := w.heap.size) N2 N3 g3 g4 z1
 clear HK HO HU2 g1 g2 g3 g4 N2 N3
 go_wp2_with fail
 refine Calls.mono (P4.type R1 qo) ?_
 rintro e w5 ⟨rfl, P5, K5⟩
 have B5 : Below w.heap.size w w5 := B4.trans (K5.below B4.size)
 clear P4 K5
 go_wp2_with fail
 refine Calls.mono (P5.symm.type R1 qo) ?_
 rintro e w6 ⟨rfl, P6, K6⟩
 have B6 : Below w.heap.size w w6 := B5.trans (K6.below B5.size)
 clear P5 K6 B4
 go_wp2_with fail
 refine Calls.mono (P6.symm.type R2 qd) ?_
 rintro e w7 ⟨rfl, P7, K7⟩
 have B7 : Below w.heap.size w w7 := B6.trans (K7.below B6.size)
 clear P6 K7 B5
 go_wp2_with fail
 refine Calls.mono (P7.symm.type R2 qd) ?_
 rintro e w8 ⟨rfl, P8', K8⟩
 have B8 : Below w.heap.size w w8 := B7.trans (K8.below B7.size)
 have P8 := P8'.symm
 clear P7 P8' K8 B6 B7 R1 R2
 obtain ⟨a0, b0, gW, zW⟩ := arrs w8 hJ hI
 have j1 : ((J : Nat) : Int) < 8 := by omega
 have j2 : (0 : Int) ≤ ((J : Nat) : Int) := by omega
 have i1 : ((I : Nat) : Int) < 12 := by omega
 have i2 : (0 : Int) ≤ ((I : Nat) : Int) := by omega
 have l1 := vS_size J
 have l2 := yS_size I
 have z8 := B8.size
 have PW := P8.later gW
 have BW := B8.trans (gW.mono B8.size)
 go_wp2_with fail
 generalize ((w8.alloc zV).alloc zY) = W at *
 have m1 : w8.heap.size < W.heap.size := by omega
 have m2 : w8.heap.size + 1 < W.heap.size := by omega
 clear gW P8 B8
 have hcat : ¬ 9223372036854775807 < (vS J).size + (yS I).size := by omega
 refine wp_region_held_drew (S := fun ww => ww.cell? ⟨w8.heap.size, J, none⟩ = some (.string (vS J)) ∧ ww.cell? ⟨w8.heap.size + 1, I, none⟩ = some (.string (yS I))) qk ?_ (fun hHeld => ?_)
 ·exact ⟨memLater ((Below.refl _ _).drew) a0, memLater ((Below.refl _ _).drew) b0⟩
 refine qT 0 ?_
 simp only [Act.put, qP]
 refine qT 4 ?_
 simp only [Act.put, qP]
 refine qR 1 fun K hK => ?_
 rw [if_pos (by rfl)]
 go_wp2_with fail
 refine Calls.mono (HP1.out _) ?_
 rintro e w' ⟨rfl, rfl⟩
 go_wp2_with fail
 refine hK.out _ _ ?_ (fun hHeld => ?_)
 ·exact ⟨memLater ((Below.refl _ _).drew) a0, memLater ((Below.refl _ _).drew) b0⟩
 clear hK K
 try simp only [Act.put, qP]
 refine qT 2 ?_
 simp only [Act.put, qP]
 refine qT 3 ?_
 simp only [Act.put, qP]
 refine qR 5 fun K hK => ?_
 rw [if_pos (by rfl)]
 go_wp2_with fail
 refine Calls.mono (HP2.out _) ?_
 rintro e w' ⟨rfl, rfl⟩
 go_wp2_with fail
 refine hK.out _ _ ?_ (fun hHeld => ?_)
 ·exact ⟨memLater ((Below.refl _ _).drew) a0, memLater ((Below.refl _ _).drew) b0⟩
 clear hK K
 try simp only [Act.put, qP]
 refine qT 6 ?_
 simp only [Act.put, qP]
 refine qT 7 ?_
 simp only [Act.put, qP]
 refine qT 8 ?_
 simp only [Act.put, qP]
 refine qT 9 ?_
 simp only [Act.put, qP]
 refine wpAnyH_done qk ?_ _
 have P9 := PW.later ((Below.refl _ _).drew)
 have B9 := BW.drew
 clear PW BW a0 b0 m1 m2 HP1 HP2 j1 j2 i1 i2 zW z8
 generalize W.drew = W9 at *
 have hds := dS J I
 have hD : (vS J ++ yS I).size ≤ 5 := by rw [ByteArray.size_append]; omega
 clear l1 l2 hcat
 generalize vS J ++ yS I = D at *
 have HJ : ∃ js : List UInt8, js.length ≤ 20 ∧ (∀ k, k ∈ js → ¬ (k.toNat : Int) = 27) ∧ (hasB wd 27 = false → js = wd.data.toList) := by
  by_cases hb : hasB wd 27 = true
  ·exact ⟨[], by simp, by simp, fun h => by rw [hb] at h; cases h⟩
  ·exact ⟨wd.data.toList, by rw [Array.length_toList]; exact hw, hasB_no (by simpa using hb), fun _ => rfl⟩
 obtain ⟨js, hjl, hjn, hjs⟩ := HJ
 rcases act2 HA s2 inv2 qo rest2 J I hJ hI js hjl hjn with ⟨x1, R3, inv3, -⟩ | ⟨hv, x1, p2, f2, R3, inv3, rest3, hdg, -⟩ | ⟨hv, y1, x1, p2, f2, R3, inv3, hm, R4, inv4, rest4, hdg, -⟩
 ·clear hjs inv3
  go_wp2_with fail
  refine Calls.mono (P9.type (ks := D) (by rw [hds]; exact R3) qo) ?_
  rintro e w10 ⟨rfl, P10, K10⟩
  have B10 := B9.trans (K10.below B9.size)
  clear P9 K10 B9
  go_wp2_with fail
  refine Calls.mono (P10.symm.type (ks := D) (by rw [hds]; exact R3) qo) ?_
  rintro e w11 ⟨rfl, P11, K11⟩
  have B11 := B10.trans (K11.below B10.size)
  clear P10 K11 B10
  have P11 := P11.symm
  have z11 := B11.size
  have HE : ∀ ww : World, (binOp .eql 32 (.agg #[.string x1.p.t, .int .i64 (x1.p.pl : Nat), .int .i64 (x1.p.anchor : Nat), .int .i64 x1.p.mode, .bool (waits x1.p)]) (.agg #[.string x1.p.t, .int .i64 (x1.p.pl : Nat), .int .i64 (x1.p.anchor : Nat), .int .i64 x1.p.mode, .bool (waits x1.p)])).run Tryz.prog ww = .ok (.bool true) ww := fun ww => eql_stateK _ _ _ _ _ ww
  go_wp2_with fail
  refine Calls.mono P11.state ?_
  rintro e w12 ⟨rfl, g12⟩
  have z12 := g12.size
  have P12 := P11.symm.later g12
  go_wp2_with fail
  refine Calls.mono P12.state ?_
  rintro e w13 ⟨rfl, g13⟩
  go_wp2
  go_ret
  refine ⟨rfl, ?_⟩
  repeat exact qB
 ·obtain ⟨hm, _, _⟩ := id rest3
  have HX := again0' HA x1 inv3 qo rest3 J I hJ hI hv hdg
  have HT : qH 23 #[.string D, .string word, .int .i64 0] (.string ⟨#[]⟩) := fun ww => kTail D word 0 ww (fun h => absurd h qd)
  obtain ⟨L, t1, t2, y2⟩ : ∃ L : Nat, IntKind.i64.wrap (((D.size : Nat) : Int) - (((⟨#[]⟩ : ByteArray).size : Nat) : Int)) = ((L : Nat) : Int) ∧ ((L : Nat) : Int) ≤ ((D.size : Nat) : Int) ∧ Hid (D.extract 0 L = D) := ⟨D.size, by rw [show (⟨#[]⟩ : ByteArray).size = 0 from rfl]; unfold IntKind.wrap; simp [IntKind.bits, IntKind.signed]; omega, by omega, ByteArray.extract_zero_size⟩
  have htl : (⟨#[]⟩ : ByteArray).size ≤ 21 := by decide
  generalize (⟨#[]⟩ : ByteArray) = tl at HX HT t1 htl
  clear hjs inv3 rest3 hdg HU3
  go_wp2_with fail
  refine Calls.mono (P9.type (ks := D) (by rw [hds]; exact R3) qo) ?_
  rintro e w10 ⟨rfl, P10, K10⟩
  have B10 := B9.trans (K10.below B9.size)
  clear P9 K10 B9
  go_wp2_with fail
  refine Calls.mono (P10.symm.type (ks := D) (by rw [hds]; exact R3) qo) ?_
  rintro e w11 ⟨rfl, P11, K11⟩
  have B11 := B10.trans (K11.below B10.size)
  clear P10 K11 B10
  have P11 := P11.symm
  have z11 := B11.size
  have HSa := P11.state
  rw [hm] at HSa
  go_wp2_with fail
  refine Calls.mono HSa ?_
  rintro e w12 ⟨rfl, g12⟩
  have z12 := g12.size
  have gV : Below w11.heap.size w11 (w12.alloc (.cells #[.string x1.p.t, .int .i64 (x1.p.pl : Nat), .int .i64 (x1.p.anchor : Nat), .int .i64 0, .bool (waits x1.p)] 32)) := by
   repeat exact qB
  have zV : (w12.alloc (.cells #[.string x1.p.t, .int .i64 (x1.p.pl : Nat), .int .i64 (x1.p.anchor : Nat), .int .i64 0, .bool (waits x1.p)] 32)).heap.size = w12.heap.size + 1 := by simp
  have PV := P11.own gV w12.heap.size g12.size qo
  have c3 := (St5.new w12 x1.p.t (x1.p.pl : Nat) (x1.p.anchor : Nat) 0 (waits x1.p) 32).c3
  have BV := B11.trans (gV.mono B11.size)
  clear HSa gV P11 B11 hm
  go_wp2_with fail
  generalize w12.alloc (.cells #[.string x1.p.t, .int .i64 (x1.p.pl : Nat), .int .i64 (x1.p.anchor : Nat), .int .i64 0, .bool (waits x1.p)] 32) = V at *
  exact qt97
 ·have HW : (wd ++ ⟨#[27]⟩).data.toList = wd.data.toList ++ [27] := by rw [ByteArray.data_append]; simp
  have hz : (⟨#[27]⟩ : ByteArray).size = 1 := rfl
  have hw2 : (wd ++ ⟨#[27]⟩).size ≤ 21 := by rw [ByteArray.size_append]; omega
  have HB : qH 21 #[.string wd, .int .u8 27] (.bool (hasB wd 27)) := fun ww => kIn wd 27 ww qo
  go_wp2_with fail
  refine Calls.mono (P9.type (ks := D) (by rw [hds]; exact R3) qo) ?_
  rintro e w10 ⟨rfl, P10, K10⟩
  have B10 := B9.trans (K10.below B9.size)
  clear P9 K10 B9
  go_wp2_with fail
  refine Calls.mono (P10.symm.type (ks := D) (by rw [hds]; exact R3) qo) ?_
  rintro e w11 ⟨rfl, P11, K11⟩
  have B11 := B10.trans (K11.below B10.size)
  clear P10 K11 B10
  have P11 := P11.symm
  have z11 := B11.size
  have HSa := P11.state
  rw [hm] at HSa
  go_wp2_with fail
  refine Calls.mono HSa ?_
  rintro e w12 ⟨rfl, g12⟩
  have z12 := g12.size
  have gV : Below w11.heap.size w11 (w12.alloc (.cells #[.string y1.p.t, .int .i64 (y1.p.pl : Nat), .int .i64 (y1.p.anchor : Nat), .int .i64 1, .bool (waits y1.p)] 32)) := by
   repeat exact qB
  have zV : (w12.alloc (.cells #[.string y1.p.t, .int .i64 (y1.p.pl : Nat), .int .i64 (y1.p.anchor : Nat), .int .i64 1, .bool (waits y1.p)] 32)).heap.size = w12.heap.size + 1 := by simp
  have PV := P11.own gV w12.heap.size g12.size qo
  have c3 := (St5.new w12 y1.p.t (y1.p.pl : Nat) (y1.p.anchor : Nat) 1 (waits y1.p) 32).c3
  have BV := B11.trans (gV.mono B11.size)
  clear HSa gV P11 B11 hm
  go_wp2_with fail
  generalize w12.alloc (.cells #[.string y1.p.t, .int .i64 (y1.p.pl : Nat), .int .i64 (y1.p.anchor : Nat), .int .i64 1, .bool (waits y1.p)] 32) = V at *
  refine Calls.mono (HU3.out _) ?_
  rintro e v1 ⟨rfl, g1⟩
  have PV1 := PV.later g1
  have c31 := memLater g1 c3
  have BV1 := BV.trans (g1.mono BV.size)
  clear HU3 PV c3 BV g1
  by_cases hb : hasB wd 27 = true
  ·rw [hb] at HB
   obtain ⟨n5, x5, R5, -⟩ := RunP.ex HA (wd ++ ⟨#[27]⟩).data.toList _ y1 inv3 (by rw [Array.length_toList]; show _ + (wd ++ ⟨#[27]⟩).size ≤ _; omega)
   clear R4 hjs inv3
   go_wp2_with fail
   refine Calls.mono (PV1.type R5 (Nat.le_trans hw2 qd)) ?_
   rintro e v2 ⟨rfl, PV2, K2⟩
   have BV2 := BV1.trans (K2.below BV1.size)
   clear PV1 K2 BV1 c31
   go_wp2_with fail
   refine Calls.mono (PV2.symm.type R5 (Nat.le_trans hw2 qd)) ?_
   rintro e v3 ⟨rfl, PV3, K3⟩
   have BV3 := BV2.trans (K3.below BV2.size)
   clear PV2 K3 BV2
   go_wp2_with fail
   refine Calls.mono (HB.out _) ?_
   rintro e v4 ⟨rfl, g4⟩
   have PV4 := PV3.symm.later g4
   have BV4 := BV3.trans (g4.mono BV3.size)
   have zV4 := BV4.size
   clear PV3 g4 BV3 HB
   have HE : ∀ ww : World, (binOp .eql 32 (.agg #[.string x5.p.t, .int .i64 (x5.p.pl : Nat), .int .i64 (x5.p.anchor : Nat), .int .i64 x5.p.mode, .bool (waits x5.p)]) (.agg #[.string x5.p.t, .int .i64 (x5.p.pl : Nat), .int .i64 (x5.p.anchor : Nat), .int .i64 x5.p.mode, .bool (waits x5.p)])).run Tryz.prog ww = .ok (.bool true) ww := fun ww => eql_stateK _ _ _ _ _ ww
   go_wp2_with fail
   refine Calls.mono PV4.state ?_
   rintro e u12 ⟨rfl, g12⟩
   have z12 := g12.size
   have P12 := PV4.symm.later g12
   go_wp2_with fail
   refine Calls.mono P12.state ?_
   rintro e u13 ⟨rfl, g13⟩
   go_wp2
   go_ret
   refine ⟨rfl, ?_⟩
   repeat exact qB
  ·have hb : hasB wd 27 = false := by simpa using hb
   rw [hb] at HB
   have ej := hjs hb
   subst ej
   have HX := again1 HA x1 inv4 qo rest4 J I hJ hI hv wd.data.toList hjl hjn hdg
   rw [← HW] at HX R4
   have HT : qH 23 #[.string (D ++ wd ++ ⟨#[27]⟩), .string wd, .int .i64 1] (.string (wd ++ ⟨#[27]⟩)) := fun ww => kTail _ wd 1 ww (fun _ => by omega)
   clear hjs inv3 inv4 rest4 hdg
   go_wp2_with fail
   refine Calls.mono (PV1.type R4 (Nat.le_trans hw2 qd)) ?_
   rintro e v2 ⟨rfl, PV2, K2⟩
   have BV2 := BV1.trans (K2.below BV1.size)
   have c32 := K2.was qi c31
   clear PV1 K2 BV1 c31
   go_wp2_with fail
   refine Calls.mono (PV2.symm.type R4 (Nat.le_trans hw2 qd)) ?_
   rintro e v3 ⟨rfl, PV3, K3⟩
   have BV3 := BV2.trans (K3.below BV2.size)
   have c33 := K3.was qi c32
   clear PV2 K3 BV2 c32
   go_wp2_with fail
   refine Calls.mono (HB.out _) ?_
   rintro e v4 ⟨rfl, g4⟩
   have PV := PV3.symm.later g4
   have BV := BV3.trans (g4.mono BV3.size)
   have c3 := memLater g4 c33
   have zV4 := BV.size
   clear PV3 g4 BV3 HB c33
   obtain ⟨L, t1, t2, y2⟩ : ∃ L : Nat, IntKind.i64.wrap ((((D ++ wd ++ ⟨#[27]⟩).size : Nat) : Int) - (((wd ++ ⟨#[27]⟩).size : Nat) : Int)) = ((L : Nat) : Int) ∧ ((L : Nat) : Int) ≤ (((D ++ wd ++ ⟨#[27]⟩).size : Nat) : Int) ∧ Hid ((D ++ wd ++ ⟨#[27]⟩).extract 0 L = D) := by
    have e1 : (D ++ wd ++ ⟨#[27]⟩).size = D.size + (wd ++ ⟨#[27]⟩).size := by rw [ByteArray.append_assoc, ByteArray.size_append]
    refine ⟨D.size, ?_, by omega, ?_⟩
    ·rw [e1]; unfold IntKind.wrap; simp [IntKind.bits, IntKind.signed]; omega
    ·rw [ByteArray.append_assoc]; exact ByteArray.extract_append_eq_left rfl
   have hdw : D.size + wd.size ≤ 25 := by omega
   have hdz : (D ++ wd).size ≤ 25 := by rw [ByteArray.size_append]; omega
   go_wp2_with fail
   generalize D ++ wd ++ ⟨#[27]⟩ = D1 at *
   generalize wd ++ ⟨#[27]⟩ = tl at *
   exact qt97
