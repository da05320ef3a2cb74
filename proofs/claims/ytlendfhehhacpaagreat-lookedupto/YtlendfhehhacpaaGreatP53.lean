/- Joined of the texts KnownC, LookG, LookH. -/
import Derived.Test.YtlendfhehhacpaaGreatP52
import Derived.Test.YtlendfhehhacpaaGreatP51
set_option linter.unusedVariables false
set_option linter.unusedSimpArgs false
set_option maxRecDepth 100000
set_option maxHeartbeats 8000000
namespace Go.Proofs.YtlendfhehhacpaaGreat
open Go.RowKit
def kdw : ByteArray := ⟨#[100, 119]⟩
def ku : ByteArray := ⟨#[117]⟩
def Dw (w : World) (b r d m : Nat) (ww : World) : Prop := ∃ g cap dg, BdAt ww b r d (.slice none 0 0) dg ∧ RdAt ww r d (P3 m g cap) ∧ RgAt ww m f1 ∧ ww.ownsRow 0 130 3 (.slice (some ⟨g, 0, none⟩) 1 cap) 1 (stp k3 k7) ∧ g ≠ r ∧ g ≠ d ∧ Upd [b, r, d, m] w ww
theorem kType_dw (w0 w : World) (q b r d m : Nat) (N : New7 w0 w q b r d m k7) :
    Calls Tryz.prog 17 #[.pointer (some ⟨q, 0, none⟩), .string kdw] w fun e w' => e = .returned (.int .i64 0) ∧ Dw w b r d m w' := by
  have lb := N.bd.lt
  have lr := N.rd.bg.lt
  have ld := N.rd.dk.lt
  have lm := N.rg.lt
  refine nType q b kdw w 0 (Dw w b r d m) N.cq (fun ww hw => ?_)
  subst hw
  refine Calls.mono (bType_none b kdw (fun k ww' => match k with
    | 0 => ww' = ww
    | 1 => RdAt ww' r d (P1 m) ∧ RgAt ww' m f0 ∧ ∃ tv, BdAt ww' b r d tv ⟨#[]⟩ ∧ ww'.ownsRow 0 5 1 tv 1 ([100].map (Value.int .u8)) ∧ (∀ k, tv.ownBlock = some k → ww.heap.size ≤ k) ∧ Upd [b, r, d, m] ww ww'
    | _ => Dw ww b r d m ww') ww rfl (by decide) ?_) ?_
  · intro k hk w1 hI
    have hk2 : k = 0 ∨ k = 1 := by
      have : kdw.size = 2 := by decide
      omega
    rcases hk2 with rfl | rfl
    · have hI' : w1 = ww := hI
      subst hI'
      refine Calls.mono (known_d b r d m ⟨#[]⟩ w1 N.ly N.bd N.rd N.rg) ?_
      rintro e w' ⟨rfl, h1, h2, tv, h3, h4, h5, h6⟩
      exact ⟨0, rfl, by decide, h1, h2, tv, h3, h4, h5, h6.mono (by simp)⟩
    · obtain ⟨h1, h2, tv, h3, h4, h5, h6⟩ := hI
      have ne : ∀ x, x < ww.heap.size → tv.ownBlock ≠ some x := fun x hx e => by have := h5 x e; omega
      refine Calls.mono (known_w b r d m ⟨#[]⟩ tv w1 N.ly h3 h1 h2 h4 (ne b lb) (ne r lr) (ne d ld) (ne m lm)) ?_
      rintro e w' ⟨rfl, g, cap, dg', k1, k2, k3', k4', k5, k6⟩
      have z := h6.size
      refine ⟨2, rfl, by decide, g, cap, dg', k1, k2, k3', k4', by omega, by omega, ?_⟩
      refine updMore h6 k6 ?_
      intro x hx
      simp only [List.mem_cons, List.mem_append, List.append_nil, mem_own, List.not_mem_nil, or_false] at hx ⊢
      rcases hx with hx | hx | hx | hx
      · simp [hx]
      · simp [hx]
      · rcases hx with hx | hx | hx <;> simp [hx]
      · exact Or.inr (h5 x hx)
  · rintro e w' ⟨rfl, h⟩
    exact ⟨rfl, h⟩
theorem kType_u (w v : World) (q b r d m : Nat) (L : Lay b r d m) (hq : v.cell? ⟨q, 0, none⟩ = some (.pointer (some ⟨b, 0, none⟩))) (h : Dw w b r d m v) :
    Calls Tryz.prog 17 #[.pointer (some ⟨q, 0, none⟩), .string ku] v fun e w' => e = .returned (.int .i64 0) ∧ (∃ dg, BdAt w' b r d (.slice none 0 0) dg) ∧ Back7 r d m w' ∧ Upd [b, r, d] v w' := by
  obtain ⟨g, cap, dg, h1, h2, h3, h4, h5, h6, h7⟩ := h
  refine nType q b ku v 0 (fun w' => (∃ dg, BdAt w' b r d (.slice none 0 0) dg) ∧ Back7 r d m w' ∧ Upd [b, r, d] v w') hq (fun ww hw => ?_)
  subst hw
  refine Calls.mono (bType_none b ku (fun k ww' => match k with
    | 0 => ww' = ww
    | _ => (∃ dg, BdAt ww' b r d (.slice none 0 0) dg) ∧ Back7 r d m ww' ∧ Upd [b, r, d] ww ww') ww rfl (by decide) ?_) ?_
  · intro k hk w1 hI
    have hk2 : k = 0 := by
      have : ku.size = 1 := by decide
      omega
    subst hk2
    have hI' : w1 = ww := hI
    subst hI'
    refine Calls.mono (known_u b r d m g cap dg w1 L h1 h2 h3 h4 h5 h6) ?_
    rintro e w' ⟨rfl, k1, k2, k3⟩
    exact ⟨1, rfl, by decide, ⟨dg, k1⟩, k2, k3⟩
  · rintro e w' ⟨rfl, h⟩
    exact ⟨rfl, h⟩
theorem below_of_upd {S : List Nat} {n : Nat} {w w' : World} (h : Upd S w w') (hn : n ≤ w.heap.size) (hs : ∀ x, x ∈ S → n ≤ x) : Below n w w' :=
  ⟨h.os, h.tape, h.output, h.size, fun k hk => h.block k (by omega) (fun hm => by have := hs k hm; omega)⟩
theorem Dw.below {w v v' : World} {b r d m : Nat} (h : Dw w b r d m v) (hb : Below v.heap.size v v') : Dw w b r d m v' := by
  obtain ⟨g, cap, dg, h1, h2, h3, h4, h5, h6, h7⟩ := h
  exact ⟨g, cap, dg, h1.below hb, h2.below hb, h3.below hb, ownsRow_upd h4 (Upd.of_below (S := []) hb) (by simp), h5, h6, Upd.below h7 hb⟩
theorem kKnown (w : World) : Calls Tryz.prog 14 #[] w fun e w' => e = .returned (.bool true) ∧ Below w.heap.size w w' := by
  have HO : Hid (∀ ww, Calls Tryz.prog 15 #[.string k7] ww fun e w' => ∃ q b r d m : Nat, e = .returned (.pointer (some ⟨q, 0, none⟩)) ∧ New7 ww w' q b r d m k7 ∧ Below ww.heap.size ww w') := fun ww => kOpened k7 ww (by decide)
  go_enter Tryz.func14, Tryz.ntmps14
  go_wp2_with fail
  refine Calls.mono (HO.out _) ?_
  rintro e w1 ⟨q, b, r, d, m, rfl, N1, h1⟩
  have z1 := h1.size
  go_wp2_with fail
  refine Calls.mono (kType_dw w w1 q b r d m N1) ?_
  rintro e w2 ⟨rfl, D2⟩
  obtain ⟨g, cap, dg, d1, d2, d3, d4, d5, d6, u2⟩ := D2
  have D2 : Dw w1 b r d m w2 := ⟨g, cap, dg, d1, d2, d3, d4, d5, d6, u2⟩
  have q2 : w2.cell? ⟨q, 0, none⟩ = some (.pointer (some ⟨b, 0, none⟩)) := u2.was N1.cq (by simp [N1.qb, N1.qr, N1.qd, N1.qm])
  have B2 : Below w.heap.size w w2 := (h1.trans (below_of_upd u2 z1 (by intro x hx; simp at hx; rcases hx with hx | hx | hx | hx <;> (rw [hx]; first | exact N1.lb | exact N1.lr | exact N1.ld | exact N1.lm))))
  have z2 := u2.size
  have HS2 : Hid (∀ ww, ww = w2 → Calls Tryz.prog 18 #[.pointer (some ⟨q, 0, none⟩)] ww fun e w' => ∃ a c o : Int, ∃ l, e = .returned (.agg #[.string k3, .int .i64 a, .int .i64 c, .int .i64 o, .bool l]) ∧ Below ww.heap.size ww w') := by
    intro ww hw
    subst hw
    refine Calls.mono (nState q b r d _ dg (P3 m g cap) ww q2 d1 d2) ?_
    rintro e w' ⟨rfl, h⟩
    exact ⟨_, _, _, _, rfl, h⟩
  clear d1 d2 d3 d4 d5 d6 u2 h1
  go_wp2_with fail
  refine Calls.mono (HS2.out _ rfl) ?_
  rintro e w3 ⟨a, c, o, l, rfl, h3⟩
  have z3 := h3.size
  have lb := N1.bd.lt
  have lr := N1.rd.bg.lt
  have ld := N1.rd.dk.lt
  have lm := N1.rg.lt
  have lq : q < w2.heap.size := World.block_lt_of_cell? w2 ⟨q, 0, none⟩ q2
  have D3 := D2.below h3
  have q3 := memLater h3 q2
  clear HS2 HO
  have D4 := D3.below ((Below.refl _ w3).alloc (Nat.le_refl _) (.cells #[.string k3, .int .i64 a, .int .i64 c, .int .i64 o, .bool l] 32))
  have q4 := memLater ((Below.refl _ w3).alloc (Nat.le_refl _) (.cells #[.string k3, .int .i64 a, .int .i64 c, .int .i64 o, .bool l] 32)) q3
  have s4 : (w3.alloc (.cells #[.string k3, .int .i64 a, .int .i64 c, .int .i64 o, .bool l] 32)).cell? ⟨w3.heap.size, 0, none⟩ = some (.string k3) := by simp
  have z4 : (w3.alloc (.cells #[.string k3, .int .i64 a, .int .i64 c, .int .i64 o, .bool l] 32)).heap.size = w3.heap.size + 1 := by simp
  have B4 : Below w.heap.size w (w3.alloc (.cells #[.string k3, .int .i64 a, .int .i64 c, .int .i64 o, .bool l] 32)) := by
    repeat (with_reducible first | exact Below.refl _ _ | refine b_s ?_ _ | refine b_a ?_ _ | refine Below.drew ?_ | refine below_drewN ?_ _ | refine b_t ?_ h3 | refine b_t ?_ B2)
  go_wp2_with fail
  generalize (w3.alloc (.cells #[.string k3, .int .i64 a, .int .i64 c, .int .i64 o, .bool l] 32)) = v4 at *
  generalize w3.heap.size = S3 at *
  refine Calls.mono (kType_u w1 v4 q b r d m N1.ly q4 D4) ?_
  rintro e w5 ⟨rfl, ⟨dg5, b5⟩, ⟨p5, r5, t5, _, _, m5, g5⟩, u5⟩
  have z5 := u5.size
  have q5 := u5.was q4 (by simp [N1.qb, N1.qr, N1.qd])
  have s5 := u5.was s4 (by simp; omega)
  have B5 : Below w.heap.size w w5 := B4.trans (below_of_upd u5 (by omega) (by intro x hx; simp at hx; rcases hx with hx | hx | hx <;> (rw [hx]; first | exact N1.lb | exact N1.lr | exact N1.ld)))
  have HS5 : Hid (∀ ww, ww = w5 → Calls Tryz.prog 18 #[.pointer (some ⟨q, 0, none⟩)] ww fun e w' => ∃ a c o : Int, ∃ l, e = .returned (.agg #[.string k7, .int .i64 a, .int .i64 c, .int .i64 o, .bool l]) ∧ Below ww.heap.size ww w') := by
    intro ww hw
    subst hw
    refine Calls.mono (nState q b r d _ dg5 p5 ww q5 b5 r5) ?_
    rintro e w' ⟨rfl, h⟩
    rw [t5]
    exact ⟨_, _, _, _, rfl, h⟩
  have hf34 : f1 34 = .agg #[.string k4, .bool false] := rfl
  clear u5 D4 D3 D2 s4 q4 q3 q2 B4 B2 h3
  go_wp2_with fail
  refine Calls.mono (HS5.out _ rfl) ?_
  rintro e w6 ⟨a6, c6, o6, l6, rfl, h6⟩
  have z6 := h6.size
  have b6 := b5.below h6
  have r6 := r5.below h6
  have g6 := g5.below h6
  have q6 := memLater h6 q5
  have s6 := memLater h6 s5
  have B6 : Below w.heap.size w w6 := by
    repeat (with_reducible first | exact Below.refl _ _ | refine b_s ?_ _ | refine b_a ?_ _ | refine Below.drew ?_ | refine below_drewN ?_ _ | refine b_t ?_ h6 | refine b_t ?_ B5)
  clear HS5 b5 r5 g5 q5 s5 B5 h6
  have al := (Below.refl _ w6).alloc (Nat.le_refl _) (.cells #[.string k7, .int .i64 a6, .int .i64 c6, .int .i64 o6, .bool l6] 32)
  have b7 := b6.below al
  have r7 := r6.below al
  have g7 := g6.below al
  have q7 := memLater al q6
  have s7 := memLater al s6
  have t7 : (w6.alloc (.cells #[.string k7, .int .i64 a6, .int .i64 c6, .int .i64 o6, .bool l6] 32)).cell? ⟨w6.heap.size, 0, none⟩ = some (.string k7) := by simp
  have z7 : (w6.alloc (.cells #[.string k7, .int .i64 a6, .int .i64 c6, .int .i64 o6, .bool l6] 32)).heap.size = w6.heap.size + 1 := by simp
  have B7 : Below w.heap.size w (w6.alloc (.cells #[.string k7, .int .i64 a6, .int .i64 c6, .int .i64 o6, .bool l6] 32)) := by
    repeat (with_reducible first | exact Below.refl _ _ | refine b_s ?_ _ | refine b_a ?_ _ | refine Below.drew ?_ | refine below_drewN ?_ _ | refine b_t ?_ B6)
  go_wp2_with fail
  generalize (w6.alloc (.cells #[.string k7, .int .i64 a6, .int .i64 c6, .int .i64 o6, .bool l6] 32)) = v7 at *
  generalize w6.heap.size = S6 at *
  refine Calls.mono (nRegister_at q b r d m _ dg5 p5 34 f1 k4 false v7 q7 b7 r7 m5 g7 hf34) ?_
  rintro e w8 ⟨rfl, h8⟩
  have s8 := memLater h8 s7
  have t8 := memLater h8 t7
  have B8 : Below w.heap.size w w8 := by
    repeat (with_reducible first | exact Below.refl _ _ | refine b_s ?_ _ | refine b_a ?_ _ | refine Below.drew ?_ | refine below_drewN ?_ _ | refine b_t ?_ h8 | refine b_t ?_ B7)
  have x3 : (k3.toList == [116, 119, 111]) = true := by rw [ByteArray.toList_eq]; decide
  have x7 : (k7.toList == [111, 110, 101, 32, 116, 119, 111]) = true := by rw [ByteArray.toList_eq]; decide
  have x4 : (k4.toList == [111, 110, 101, 32]) = true := by rw [ByteArray.toList_eq]; decide
  clear b6 r6 g6 q6 s6 b7 r7 g7 q7 s7 t7 B6 B7 al h8
  go_wp2
  go_ret
  exact ⟨rfl, B8⟩
def LkS (w0 : World) (b r d m : Nat) (t : ByteArray) (N : Nat) (ww : World) : Prop :=
  ∃ p f tv n xs dg, BdAt ww b r d tv dg ∧ ww.ownsRow 0 5 1 tv n xs ∧ n ≤ N ∧ RdAt ww r d p ∧ RgAt ww m f ∧ GoodL t m p ∧ (∀ k, tv.ownBlock = some k → w0.heap.size ≤ k) ∧ Upd [b, r, d, m] w0 ww
theorem GoodL.none {t : ByteArray} {m : Nat} {p : Pg} (h : GoodL t m p) : GoodL t m p.none' :=
  ⟨h.tx, h.now, h.ts, h.pl, h.st, h.an, h.mo, Nat.zero_le _, Nat.zero_le _, Or.inl rfl, Or.inl rfl, h.fd, h.rg⟩
theorem GoodL.esc {t : ByteArray} {m : Nat} {p : Pg} (h : GoodL t m p) : GoodL t m { p.none' with mode := 0, anchor := 0 } :=
  ⟨h.tx, h.now, h.ts, h.pl, h.st, Nat.zero_le _, Or.inl rfl, Nat.zero_le _, Nat.zero_le _, Or.inl rfl, Or.inl rfl, h.fd, h.rg⟩
theorem lPress (HA : AnyOk) (w0 ww : World) (b r d m N : Nat) (t : ByteArray) (key : Int) (L : Lay b r d m) (lb : b < w0.heap.size) (lr : r < w0.heap.size) (ld : d < w0.heap.size) (lm : m < w0.heap.size) (hN : N ≤ 17592186044416) (hk : (LKey key ∧ ¬ key = 27) ∨ key = 27) (h : LkS w0 b r d m t N ww) :
    Calls Tryz.prog 38 #[.pointer (some ⟨b, 0, none⟩), .int .u8 key] ww fun e w' => ∃ O : Int, e = .returned (.int .i64 O) ∧ LkS w0 b r d m t (N + 1) w' := by
  obtain ⟨p, f, tv, n, xs, dg, HB, ho, hn, HR, HG, hg, hfr, hup⟩ := h
  have rd := HR.ne
  have hz := hup.size
  have ne : ∀ x, x < w0.heap.size → tv.ownBlock ≠ some x := fun x hx e => by have := hfr x e; omega
  have hbT : b ∉ [r, d, m] := by simp [L.br, L.bd, L.mb.symm]
  have hbT' : b ∉ r :: [r, d, m] := by simp [L.br, L.bd, L.mb.symm]
  have htT : ∀ k, k ∈ [r, d, m] → tv.ownBlock ≠ some k := by intro k hk; simp at hk; rcases hk with hk | hk | hk <;> (rw [hk]; apply ne; assumption)
  have htT' : ∀ k, k ∈ r :: [r, d, m] → tv.ownBlock ≠ some k := by intro k hk; simp at hk; rcases hk with hk | hk | hk <;> (rw [hk]; apply ne; assumption)
  have sB : ∀ u v, LX r d m t u → Upd (b :: own tv) u v → LX r d m t v := by
    rintro u v ⟨p2, f2, h1, h2, h3⟩ hu
    refine ⟨p2, f2, h1.upd hu ?_ ?_, h2.upd hu ?_, h3⟩
    · simp only [List.mem_cons, mem_own]; rintro (e | e)
      · exact L.br e.symm
      · exact ne r lr e
    · simp only [List.mem_cons, mem_own]; rintro (e | e)
      · exact L.bd e.symm
      · exact ne d ld e
    · simp only [List.mem_cons, mem_own]; rintro (e | e)
      · exact L.mb e
      · exact ne m lm e
  have sB1 : ∀ u v, LX r d m t u → Upd [b] u v → LX r d m t v := fun u v h hu => sB u v h (hu.mono (by simp))
  have hBq : ∀ ww, LX r d m t ww → ∃ p2, RdAt ww r d p2 ∧ ¬ p2.mode = 1 ∧ p2.now = p2.t := fun ww ⟨p2, f2, h1, _, h3⟩ => ⟨p2, h1, by have := h3.mo; omega, by rw [h3.now, h3.tx]⟩
  have HF : Hid (∀ ww, LX r d m t ww → Calls Tryz.prog 65 #[.pointer (some ⟨r, 1, none⟩)] ww fun e w' => e = .returned (.tuple #[]) ∧ LX r d m t w' ∧ Upd [r] ww w') :=
    fun ww ⟨p2, f2, h1, h2, h3⟩ => Calls.mono (mForget r d p2 ww h1) (fun _ _ ⟨a, b', c⟩ => ⟨a, ⟨_, f2, b', h2.upd c (by simp [L.mr]), h3.none⟩, c⟩)
  have fin : ∀ (w' : World) (S : List Nat), LX r d m t w' → BdAt w' b r d (.slice none 0 0) dg → Upd S ww w' → (∀ x, x ∈ S → x ∈ [b, r, d, m] ∨ tv.ownBlock = some x) → LkS w0 b r d m t (N + 1) w' := by
    rintro w' S ⟨p2, f2, h1, h2, h3⟩ hb hu hS
    refine ⟨p2, f2, _, 0, [], dg, hb, World.ownsRow_nil _ _ _ _, Nat.zero_le _, h1, h2, h3, by simp [Value.ownBlock], updMore hup hu ?_⟩
    intro x hx
    rcases hS x hx with h | h
    · exact Or.inl h
    · exact Or.inr (hfr x h)
  rcases hg.mo with hm | hm
  ·
    have dn : ∀ O : Int, ¬ O = 0 → ¬ O = 2 → TakesB b r d tv dg key (LA r d m p f) (LX r d m t) O (r :: [r, d, m]) → Calls Tryz.prog 38 #[.pointer (some ⟨b, 0, none⟩), .int .u8 key] ww fun e w' => ∃ O : Int, e = .returned (.int .i64 O) ∧ LkS w0 b r d m t (N + 1) w' := by
      intro O h0 h2 HT
      refine Calls.mono (press_normal_doneB b r d p tv n xs dg key O (LA r d m p f) (LX r d m t) (r :: [r, d, m]) ww HB ho ⟨HR, HG⟩ (fun _ h => h.1) hbT' (ne b lb) htT' (by omega) hm sB LX.firm hBq L.br L.bd h0 h2 HT) ?_
      rintro e w' ⟨rfl, h1, h2, h3⟩
      refine ⟨O, rfl, fin w' _ h1 h2 h3 ?_⟩
      intro x hx
      simp only [List.mem_cons, List.mem_append, mem_own, List.not_mem_nil, or_false] at hx ⊢
      rcases hx with h | (h | h | h | h) | h
      · simp [h]
      · simp [h]
      · simp [h]
      · simp [h]
      · simp [h]
      · exact Or.inr h
    rcases hk with ⟨hk, hk27⟩ | hk
    · obtain ⟨O, hO, HT⟩ := lTakeN HA r d m p f t key hg L.mr L.md rd hm hk
      rcases hO with hO | hO
      · subst hO
        refine Calls.mono (press_normal_moreB b r d p tv n xs dg key (LA r d m p f) (LX r d m t) [r, d, m] ww HB ho ⟨HR, HG⟩ (fun _ h => h.1) hbT (ne b lb) htT (by omega) hm sB (fun w2 h1 h2 => bTake_normal_moreB b r d tv dg p key _ _ [r, d, m] w2 h1 h2 LA.firm LX.firm (fun _ h => h.1) hm hk27 HT)) ?_
        rintro e w' ⟨rfl, ⟨p2, f2, h1, h2, h3⟩, tv', h4, h5, h6, h7⟩
        refine ⟨0, rfl, p2, f2, tv', n + 1, _, dg, h4, h5, by omega, h1, h2, h3, ?_, updMore hup h7 ?_⟩
        · intro k hk
          rcases h6 with h | ⟨g, h8, h9⟩
          · rw [h] at hk; exact hfr k hk
          · rw [h8] at hk; injection hk with hk; omega
        · intro x hx
          simp only [List.mem_cons, List.mem_append, mem_own, List.not_mem_nil, or_false] at hx ⊢
          rcases hx with h | (h | h | h) | h
          · simp [h]
          · simp [h]
          · simp [h]
          · simp [h]
          · exact Or.inr (hfr x h)
      · exact dn O (by omega) (by omega) (fun w2 h1 h2 => bTake_normal_doneB b r d tv dg p key O (LX r d m t) _ _ [r, d, m] w2 h1 h2 LA.firm LX.firm (fun _ h => h.1) hm hk27 hbT (by omega) (by omega) LX.firm (fun _ ⟨p2, _, h, _⟩ => ⟨p2, h⟩) HF HT)
    · subst hk
      refine dn 1 (by decide) (by decide) (fun w2 h1 h2 => Calls.mono (bTake_normal_esc b r d tv dg p w2 h1 h2.1 hm) ?_)
      rintro e w' ⟨rfl, k1, k2⟩
      exact ⟨rfl, ⟨_, f, k1, h2.2.upd k2 (by simp [L.mr, L.md]), hg.esc⟩, k2.mono (by simp)⟩
  ·
    have dn : ∀ O : Int, ¬ O = 0 → ¬ O = 2 → TakesB b r d tv dg key (LA r d m p f) (LX r d m t) O (r :: [r, d, m]) → Calls Tryz.prog 38 #[.pointer (some ⟨b, 0, none⟩), .int .u8 key] ww fun e w' => ∃ O : Int, e = .returned (.int .i64 O) ∧ LkS w0 b r d m t (N + 1) w' := by
      intro O h0 h2 HT
      refine Calls.mono (press_mark_doneB b r d p tv dg key O (LA r d m p f) (LX r d m t) (r :: [r, d, m]) ww HB ⟨HR, HG⟩ (fun _ h => h.1) hbT' hm sB1 LX.firm hBq L.br L.bd h0 h2 HT) ?_
      rintro e w' ⟨rfl, h1, h2, h3⟩
      refine ⟨O, rfl, fin w' _ h1 h2 h3 ?_⟩
      intro x hx
      simp only [List.mem_cons, List.not_mem_nil, or_false] at hx ⊢
      left
      rcases hx with h | h | h | h | h <;> simp [h]
    rcases hk with ⟨hk, hk27⟩ | hk
    · obtain ⟨O, hO, HT⟩ := lTakeM HA r d m p f t key hg L.mr L.md rd hm hk
      rcases hO with hO | hO
      · subst hO
        refine Calls.mono (press_mark_moreB b r d p tv dg key (LA r d m p f) (LX r d m t) [r, d, m] ww HB ⟨HR, HG⟩ (fun _ h => h.1) hbT hm sB1 LX.firm L.br L.bd (fun w2 h1 h2 => bTake_marking_moreB b r d tv dg p key _ _ [r, d, m] w2 h1 h2 LA.firm LX.firm (fun _ h => h.1) hm hk27 HT)) ?_
        rintro e w' ⟨rfl, ⟨p2, f2, h1, h2, h3⟩, h4, h7⟩
        exact ⟨0, rfl, p2, f2, tv, n, xs, dg, h4, ownsRow_upd ho h7 htT, by omega, h1, h2, h3, hfr, updMore hup h7 (by intro x hx; left; simp at hx ⊢; rcases hx with h | h | h <;> simp [h])⟩
      · exact dn O (by omega) (by omega) (fun w2 h1 h2 => bTake_marking_doneB b r d tv dg p key O (LX r d m t) _ _ [r, d, m] w2 h1 h2 LA.firm LX.firm (fun _ h => h.1) hm hk27 hbT (by omega) (by omega) LX.firm (fun _ ⟨p2, _, h, _⟩ => ⟨p2, h⟩) HF HT)
    · subst hk
      refine dn 1 (by decide) (by decide) (fun w2 h1 h2 => Calls.mono (bTake_marking_esc b r d tv dg p w2 h1 h2.1 hm) ?_)
      rintro e w' ⟨rfl, k1, k2⟩
      exact ⟨rfl, ⟨_, f, k1, h2.2.upd k2 (by simp [L.mr, L.md]), hg.esc⟩, k2.mono (by simp)⟩
def hasB (s : ByteArray) (c : Int) : Bool := decide (Nib.up (fun i => !(Nib.bt s i == c)) s.size 0 < s.size)
theorem kIn (s : ByteArray) (c : Int) (w : World) (hs : s.size ≤ 1000) :
    Calls Tryz.prog 21 #[.string s, .int .u8 c] w fun e w' => e = .returned (.bool (hasB s c)) ∧ Below w.heap.size w w' := by
  have HI : Hid (hasB s c = decide (Nib.up (fun i => !(Nib.bt s i == c)) s.size 0 < s.size)) := rfl
  generalize hasB s c = B at *
  go_enter Tryz.func21, Tryz.ntmps21
  go_wp2
  go_loopw [5] (fun a wr => ∃ q : Nat, q ≤ s.size ∧ a = .int .i64 q ∧ Hid (B = decide (Nib.up (fun i => !(Nib.bt s i == c)) s.size q < s.size)) ∧ Below w.heap.size w wr) (fun a _ => s.size - (intOf a).toNat)
  case atStart => exact ⟨0, Nat.zero_le _, rfl, HI, Below.refl _ _⟩
  case round =>
    clear HI
    obtain ⟨q, hq, rfl, hu, BB⟩ := hrel
    by_cases hlt : q < s.size
    · have i1 : ((q : Nat) : Int) < ((s.size : Nat) : Int) := by omega
      by_cases hc : Nib.bt s q = c
      · have HZ : B = true := by
          rw [hu.out, Nib.up_stop (by simp [hc])]
          simp [hlt]
        have HE : ((((s[q]'hlt).toNat : Nat) : Int) == c) = true := by rw [← Nib.bt_in hlt]; simp [hc]
        subst HZ
        clear hu hc
        go_wp2
        go_ret
        exact ⟨rfl, BB⟩
      · have HS : Hid (B = decide (Nib.up (fun i => !(Nib.bt s i == c)) s.size (q + 1) < s.size)) := by rw [Hid, hu.out, Nib.up_step hlt (by simp [hc])]
        have HE : ((((s[q]'hlt).toNat : Nat) : Int) == c) = false := by rw [← Nib.bt_in hlt]; simp [hc]
        clear hu hc
        go_wp2
        go_round
        case rel => exact ⟨q + 1, by omega, by go_num, HS, BB⟩
        case measure => simp [intOf] <;> omega
    · have HZ : B = false := by
        rw [hu.out, Nib.up_stop (fun h => hlt h.1)]
        simp; omega
      subst HZ
      clear hu
      go_wp2
      go_ret
      exact ⟨rfl, BB⟩
def kSet : ByteArray := ⟨#[104, 106, 107, 108, 48, 94, 36, 71, 103, 119, 87, 98, 66, 101, 69, 102, 116, 70, 84, 59, 44, 123, 125, 37, 118, 86, 121, 49, 50, 51, 52, 53, 54, 55, 56, 57, 27]⟩
theorem set_ok0 : ∀ k : Nat, k < 256 → hasB kSet (k : Int) = true → ((((isPlainWay (k : Int) = true ∧ ¬ (k : Int) = 103) ∨ Nib.isFind (k : Int) = true ∨ (k : Int) = 103 ∨ (k : Int) = 59 ∨ (k : Int) = 44 ∨ (k : Int) = 118 ∨ (k : Int) = 86 ∨ (k : Int) = 121 ∨ (49 ≤ (k : Int) ∧ (k : Int) ≤ 57)) ∧ ¬ (k : Int) = 27) ∨ (k : Int) = 27) := by decide +kernel
theorem set_ok (k : Nat) (h : k < 256) (hb : hasB kSet (k : Int) = true) : (LKey (k : Int) ∧ ¬ (k : Int) = 27) ∨ (k : Int) = 27 := set_ok0 k h hb
theorem nTypeX (q b : Nat) (s : ByteArray) (w : World) (Q : World → Prop) (hq : w.cell? ⟨q, 0, none⟩ = some (.pointer (some ⟨b, 0, none⟩)))
    (HT : Hid (∀ ww, ww = w → Calls Tryz.prog 30 #[.pointer (some ⟨b, 0, none⟩), .string s] ww fun e w' => ∃ n : Nat, e = .returned (.int .i64 n) ∧ Q w')) :
    Calls Tryz.prog 17 #[.pointer (some ⟨q, 0, none⟩), .string s] w fun e w' => ∃ n : Nat, e = .returned (.int .i64 n) ∧ Q w' := by
  go_enter Tryz.func17, Tryz.ntmps17
  go_wp2_with fail
  refine Calls.mono (HT.out _ rfl) ?_
  rintro e w1 ⟨n, rfl, h1⟩
  have HQ : Hid (Q w1) := h1
  clear h1
  go_wp2
  go_ret
  exact ⟨n, rfl, HQ.out⟩
theorem lType (HA : AnyOk) (w0 ww : World) (q b r d m N : Nat) (t s : ByteArray) (c : UInt8) (L : Lay b r d m) (hq : ww.cell? ⟨q, 0, none⟩ = some (.pointer (some ⟨b, 0, none⟩))) (lb : b < w0.heap.size) (lr : r < w0.heap.size) (ld : d < w0.heap.size) (lm : m < w0.heap.size) (hN : N ≤ 1000000) (hs : s = ⟨#[c]⟩) (hk : hasB kSet (c.toNat : Int) = true) (h : LkS w0 b r d m t N ww) :
    Calls Tryz.prog 17 #[.pointer (some ⟨q, 0, none⟩), .string s] ww fun e w' => ∃ n : Nat, e = .returned (.int .i64 n) ∧ LkS w0 b r d m t (N + 1) w' := by
  subst hs
  have hc := set_ok c.toNat c.toNat_lt hk
  have hq' := hq
  have HT : ∀ n : Nat, Hid (∀ v, v = ww → Calls Tryz.prog 30 #[.pointer (some ⟨b, 0, none⟩), .string ⟨#[c]⟩] v fun e w' => ∃ n : Nat, e = .returned (.int .i64 n) ∧ LkS w0 b r d m t (N + 1) w') := by
    intro _ v hv
    subst hv
    refine Calls.mono (bType_inv b ⟨#[c]⟩ (fun k ww' => LkS w0 b r d m t (N + k) ww') v h (show 1 ≤ 17592186044416 by decide) ?_) ?_
    · intro k hk w1 hI
      have hk0 : k = 0 := by
        have : (⟨#[c]⟩ : ByteArray).size = 1 := rfl
        omega
      subst hk0
      exact lPress HA w0 w1 b r d m (N + 0) t _ L lb lr ld lm (by omega) hc hI
    · rintro e w' ⟨n, rfl, _, h2⟩
      exact ⟨n, rfl, h2⟩
  exact nTypeX q b _ ww _ hq (HT 0)
end Go.Proofs.YtlendfhehhacpaaGreat
