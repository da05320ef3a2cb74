/- A part. -/
import Derived.Test.YtlendfhehhacpaaGreatU48
set_option linter.unusedVariables false
set_option linter.unusedSimpArgs false
set_option maxRecDepth 100000
set_option maxHeartbeats 8000000
namespace Go.Proofs.YtlendfhehhacpaaGreat
open Go.RowKit Nib Tryz
theorem eqIn_strK (d : Nat) (a b : ByteArray) (w : World) : (Op.equalIn (d + 1) 9 (.string a) (.string b)).run Tryz.prog w = .ok (a == b) w := by
 simp [Op.equalIn, run_underlying underlying9]
theorem eqIn_boolK (d : Nat) (a b : Bool) (w : World) : (Op.equalIn (d + 1) 4 (.bool a) (.bool b)).run Tryz.prog w = .ok (a == b) w := by
 simp [Op.equalIn, run_underlying underlying4]
theorem eq_stateK_in (k : Nat) (s : ByteArray) (a b c : Int) (d : Bool) (w : World) : (Op.equalIn (k + 2) 32 (.agg #[.string s, .int .i64 a, .int .i64 b, .int .i64 c, .bool d]) (.agg #[.string s, .int .i64 a, .int .i64 b, .int .i64 c, .bool d])).run Tryz.prog w = .ok true w := by
 have h1 := fun x y w => eqIn_int k x y w
 have h2 := fun x y w => eqIn_strK k x y w
 have h3 := fun x y w => eqIn_boolK k x y w
 rw [show k + 2 = (k + 1) + 1 by omega]
 rw [Op.equalIn]
 simp only [Sem.run_bind, run_underlying underlying32, Result.andThen_ok]
 simp [go_sem, part, h1, h2, h3, Std.Legacy.Range.forIn_eq_forIn_range', List.range']
 first | exact beq_self_eq_true s | (show (s.data == s.data) = true; simp) | (cases s; rfl)
theorem eq_stateK (s : ByteArray) (a b c : Int) (d : Bool) (w : World) : (Op.equal 32 (.agg #[.string s, .int .i64 a, .int .i64 b, .int .i64 c, .bool d]) (.agg #[.string s, .int .i64 a, .int .i64 b, .int .i64 c, .bool d])).run Tryz.prog w = .ok true w := eq_stateK_in 9998 s a b c d w
theorem neq_stateK (s : ByteArray) (a b c : Int) (d : Bool) (w : World) : (binOp .neq 32 (.agg #[.string s, .int .i64 a, .int .i64 b, .int .i64 c, .bool d]) (.agg #[.string s, .int .i64 a, .int .i64 b, .int .i64 c, .bool d])).run Tryz.prog w = .ok (.bool false) w := by
 have e : binOp .neq 32 (.agg #[.string s, .int .i64 a, .int .i64 b, .int .i64 c, .bool d]) (.agg #[.string s, .int .i64 a, .int .i64 b, .int .i64 c, .bool d]) = (do pure (.bool (!(← Op.equal 32 (.agg #[.string s, .int .i64 a, .int .i64 b, .int .i64 c, .bool d]) (.agg #[.string s, .int .i64 a, .int .i64 b, .int .i64 c, .bool d]))))) := rfl
 rw [e, Sem.run_bind, eq_stateK]
 rfl
def cut3 (s : ByteArray) : ByteArray := if 300 < s.size then s.extract 0 300 else s
theorem cut3_size (s : ByteArray) : (cut3 s).size ≤ 300 := by
 unfold cut3
 split
 ·rw [ByteArray.size_extract]; omega
 ·omega
theorem kUpTo (s : ByteArray) (w : World) :
  qC 16 #[.string s, .int .i64 300] w (.string (cut3 s)) := by
 unfold cut3
 by_cases h : 300 < s.size
 ·rw [if_pos h]
  have h1 : (300 : Int) < ((s.size : Nat) : Int) := by omega
  have h2 : (300 : Int) ≤ ((s.size : Nat) : Int) := by omega
  go_enter func16, ntmps16
  go_wp2
  exact qV (.string (s.extract 0 300)) (by simp [results, results16, go_sem]) rfl
 ·rw [if_neg h]
  have h1 : ¬ (300 : Int) < ((s.size : Nat) : Int) := by omega
  go_enter func16, ntmps16
  go_wp2
  exact qV (.string s) (by simp [results, results16, go_sem]) rfl
structure New7 (w W : World) (q b r d m : Nat) (t : ByteArray) : Prop where
 cq : W.cell? ⟨q, 0, none⟩ = some (.pointer (some ⟨b, 0, none⟩))
 bd : BdAt W b r d (.slice none 0 0) ⟨#[]⟩
 rd : RdAt W r d (newPg t m)
 rg : RgAt W m f0
 ly : Lay b r d m
 qb : q ≠ b
 qr : q ≠ r
 qd : q ≠ d
 qm : q ≠ m
 lq : w.heap.size ≤ q
 lb : w.heap.size ≤ b
 lr : w.heap.size ≤ r
 ld : w.heap.size ≤ d
 lm : w.heap.size ≤ m
theorem New7.below {w W W' : World} {q b r d m : Nat} {t : ByteArray} (h : New7 w W q b r d m t) (hb : Below W.heap.size W W') : New7 w W' q b r d m t :=
 ⟨memLater hb h.cq, h.bd.below hb, h.rd.below hb, h.rg.below hb, h.ly, h.qb, h.qr, h.qd, h.qm, h.lq, h.lb, h.lr, h.ld, h.lm⟩
theorem kOpened (s : ByteArray) (w : World) :
  Calls Tryz.prog 15 #[.string s] w fun e w' => ∃ q b r d m : Nat, e = .returned (.pointer (some ⟨q, 0, none⟩)) ∧ New7 w w' q b r d m (cut3 s) ∧ Below w.heap.size w w' := by
 have HU : qH 16 #[.string s, .int .i64 300] (.string (cut3 s)) := fun ww => kUpTo s ww
 have hc := cut3_size s
 generalize cut3 s = t at *
 have HN : Hid (∀ ww, Calls Tryz.prog 24 #[.string t] ww fun e w' => ∃ q b r d m : Nat, e = .returned (.tuple #[.pointer (some ⟨q, 0, none⟩), .int .i64 0]) ∧ New7 ww w' q b r d m t ∧ Below ww.heap.size ww w') := by
  intro ww
  refine Calls.mono (nNew_ok t ww qo) ?_
  rintro e w' ⟨q, b, r, d, m, rfl, h1, h2, h3, h4, h5, h6, h7, h8, h9, h10, h11, h12, h13, h14, h15, h16⟩
  have hqm : q ≠ m := by
   intro e
   subst e
   have hk : w'.cell? ⟨q, 0, none⟩ = none := by simp [World.cell?, h3]
   rw [hk] at h1
   cases h1
  exact ⟨q, b, r, d, m, rfl, ⟨h1, h2.bd, h2.rd, RgAt.new h3, ⟨h2.br, h2.bd', h12, h13, h14⟩, h9, h10, h11, hqm, h4, h6, h7, h8, h5⟩, h16⟩
 have HS : Hid (∀ ww W q b r d m, New7 ww W q b r d m t → qC 18 #[.pointer (some ⟨q, 0, none⟩)] W (.agg #[.string t, .int .i64 0, .int .i64 0, .int .i64 0, .bool false])) := fun ww W q b r d m h => nState q b r d _ _ (newPg t m) W h.cq h.bd h.rd
 have hEq := fun ww => neq_stateK t 0 0 0 false ww
 go_enter func15, ntmps15
 go_wp2_with fail
 refine Calls.mono (HU.out _) ?_
 rintro e w1 ⟨rfl, h1⟩
 have hz1 := h1.size
 (try simp at hz1)
 go_wp2_with fail
 refine Calls.mono (HN.out _) ?_
 rintro e w2 ⟨q, b, r, d, m, rfl, N2, h2⟩
 have hz2 := h2.size
 (try simp at hz2)
 go_wp2_with fail
 refine Calls.mono (HS.out _ _ q b r d m N2) ?_
 rintro e w3 ⟨rfl, h3⟩
 have N3 := N2.below h3
 have hz3 := h3.size
 (try simp at hz3)
 go_wp2_with fail
 refine Calls.mono (HU.out _) ?_
 rintro e w4 ⟨rfl, h4⟩
 have N4 := N3.below h4
 have hz4 := h4.size
 (try simp at hz4)
 go_wp2
 go_ret
 refine ⟨q, b, r, d, m, rfl, ?_, ?_⟩
 ·exact ⟨N4.cq, N4.bd, N4.rd, N4.rg, N4.ly, N4.qb, N4.qr, N4.qd, N4.qm, by have := N4.lq; omega, by have := N4.lb; omega, by have := N4.lr; omega, by have := N4.ld; omega, by have := N4.lm; omega⟩
 ·repeat exact qB
def kdw : ByteArray := ⟨#[100, 119]⟩
def ku : ByteArray := ⟨#[117]⟩
def Dw (w : World) (b r d m : Nat) (ww : World) : Prop := ∃ g cap dg, BdAt ww b r d (.slice none 0 0) dg ∧ RdAt ww r d (P3 m g cap) ∧ RgAt ww m f1 ∧ ww.ownsRow 0 130 3 (.slice (some ⟨g, 0, none⟩) 1 cap) 1 (stp k3 k7) ∧ g ≠ r ∧ g ≠ d ∧ Upd [b, r, d, m] w ww
theorem kType_dw (w0 w : World) (q b r d m : Nat) (N : New7 w0 w q b r d m k7) :
  Calls Tryz.prog 17 #[.pointer (some ⟨q, 0, none⟩), .string kdw] w fun e w' => e = .returned (.int .i64 0) ∧ Dw w b r d m w' := by
 have lb := N.bd.lt
 have lr := N.rd.bg.lt
 have ld := N.rd.dk.lt
 have lm := N.rg.lt
 refine nType q b kdw w 0 (Dw w b r d m) N.cq (fun ww hw => ?_)
 subst hw
 refine Calls.mono (bType_none b kdw (fun k ww' => match k with
  | 0 => ww' = ww
  | 1 => RdAt ww' r d (P1 m) ∧ RgAt ww' m f0 ∧ ∃ tv, BdAt ww' b r d tv ⟨#[]⟩ ∧ ww'.ownsRow 0 5 1 tv 1 ([100].map (Value.int .u8)) ∧ (∀ k, tv.ownBlock = some k → ww.heap.size ≤ k) ∧ Upd [b, r, d, m] ww ww'
  | _ => Dw ww b r d m ww') ww rfl qd ?_) ?_
 ·intro k hk w1 hI
  have hk2 : k = 0 ∨ k = 1 := by
   have : kdw.size = 2 := by decide
   omega
  rcases hk2 with rfl | rfl
  ·have hI' : w1 = ww := hI
   subst hI'
   refine Calls.mono (known_d b r d m ⟨#[]⟩ w1 N.ly N.bd N.rd N.rg) ?_
   rintro e w' ⟨rfl, h1, h2, tv, h3, h4, h5, h6⟩
   exact ⟨0, rfl, by decide, h1, h2, tv, h3, h4, h5, h6.mono qi⟩
  ·obtain ⟨h1, h2, tv, h3, h4, h5, h6⟩ := hI
   have ne : ∀ x, x < ww.heap.size → tv.ownBlock ≠ some x := fun x hx e => by have := h5 x e; omega
   refine Calls.mono (known_w b r d m ⟨#[]⟩ tv w1 N.ly h3 h1 h2 h4 (ne b lb) (ne r lr) (ne d ld) (ne m lm)) ?_
   rintro e w' ⟨rfl, g, cap, dg', k1, k2, k3', k4', k5, k6⟩
   have z := h6.size
   refine ⟨2, rfl, by decide, g, cap, dg', k1, k2, k3', k4', by omega, by omega, ?_⟩
   refine updMore h6 k6 ?_
   intro x hx
   simp only [List.mem_cons, List.mem_append, List.append_nil, mem_own, List.not_mem_nil, or_false] at hx ⊢
   rcases hx with hx | hx | hx | hx
   ·simp [hx]
   ·simp [hx]
   ·rcases hx with hx | hx | hx <;> simp [hx]
   ·exact Or.inr (h5 x hx)
 ·rintro e w' ⟨rfl, h⟩
  exact ⟨rfl, h⟩
theorem kType_u (w v : World) (q b r d m : Nat) (L : Lay b r d m) (hq : v.cell? ⟨q, 0, none⟩ = some (.pointer (some ⟨b, 0, none⟩))) (h : Dw w b r d m v) :
  Calls Tryz.prog 17 #[.pointer (some ⟨q, 0, none⟩), .string ku] v fun e w' => e = .returned (.int .i64 0) ∧ (∃ dg, BdAt w' b r d (.slice none 0 0) dg) ∧ Back7 r d m w' ∧ Upd [b, r, d] v w' := by
 obtain ⟨g, cap, dg, h1, h2, h3, h4, h5, h6, h7⟩ := h
 refine nType q b ku v 0 (fun w' => (∃ dg, BdAt w' b r d (.slice none 0 0) dg) ∧ Back7 r d m w' ∧ Upd [b, r, d] v w') hq (fun ww hw => ?_)
 subst hw
 refine Calls.mono (bType_none b ku (fun k ww' => match k with
  | 0 => ww' = ww
  | _ => (∃ dg, BdAt ww' b r d (.slice none 0 0) dg) ∧ Back7 r d m ww' ∧ Upd [b, r, d] ww ww') ww rfl qd ?_) ?_
 ·intro k hk w1 hI
  have hk2 : k = 0 := by
   have : ku.size = 1 := by decide
   omega
  subst hk2
  have hI' : w1 = ww := hI
  subst hI'
  refine Calls.mono (known_u b r d m g cap dg w1 L h1 h2 h3 h4 h5 h6) ?_
  rintro e w' ⟨rfl, k1, k2, k3⟩
  exact ⟨1, rfl, by decide, ⟨dg, k1⟩, k2, k3⟩
 ·rintro e w' ⟨rfl, h⟩
  exact ⟨rfl, h⟩
theorem below_of_upd {S : List Nat} {n : Nat} {w w' : World} (h : Upd S w w') (hn : n ≤ w.heap.size) (hs : ∀ x, x ∈ S → n ≤ x) : Below n w w' :=
 ⟨h.os, h.tape, h.output, h.size, fun k hk => h.block k qo (fun hm => by have := hs k hm; omega)⟩
theorem Dw.below {w v v' : World} {b r d m : Nat} (h : Dw w b r d m v) (hb : Below v.heap.size v v') : Dw w b r d m v' := by
 obtain ⟨g, cap, dg, h1, h2, h3, h4, h5, h6, h7⟩ := h
 exact ⟨g, cap, dg, h1.below hb, h2.below hb, h3.below hb, ownsRow_upd h4 (Upd.of_below (S := []) hb) qi, h5, h6, Upd.below h7 hb⟩
theorem kKnown (w : World) : qC 14 #[] w (.bool true) := by
 have HO : Hid (∀ ww, Calls Tryz.prog 15 #[.string k7] ww fun e w' => ∃ q b r d m : Nat, e = .returned (.pointer (some ⟨q, 0, none⟩)) ∧ New7 ww w' q b r d m k7 ∧ Below ww.heap.size ww w') := fun ww => kOpened k7 ww
 go_enter func14, ntmps14
 go_wp2_with fail
 refine Calls.mono (HO.out _) ?_
 rintro e w1 ⟨q, b, r, d, m, rfl, N1, h1⟩
 have z1 := h1.size
 go_wp2_with fail
 refine Calls.mono (kType_dw w w1 q b r d m N1) ?_
 rintro e w2 ⟨rfl, D2⟩
 obtain ⟨g, cap, dg, d1, d2, d3, d4, d5, d6, u2⟩ := D2
 have D2 : Dw w1 b r d m w2 := ⟨g, cap, dg, d1, d2, d3, d4, d5, d6, u2⟩
 have q2 : w2.cell? ⟨q, 0, none⟩ = some (.pointer (some ⟨b, 0, none⟩)) := u2.was N1.cq (by simp [N1.qb, N1.qr, N1.qd, N1.qm])
 have B2 : Below w.heap.size w w2 := (h1.trans (below_of_upd u2 z1 (by intro x hx; simp at hx; rcases hx with hx | hx | hx | hx <;> (rw [hx]; first | exact N1.lb | exact N1.lr | exact N1.ld | exact N1.lm))))
 have z2 := u2.size
 have HS2 : Hid (∀ ww, ww = w2 → Calls Tryz.prog 18 #[.pointer (some ⟨q, 0, none⟩)] ww fun e w' => ∃ a c o : Int, ∃ l, e = .returned (.agg #[.string k3, .int .i64 a, .int .i64 c, .int .i64 o, .bool l]) ∧ Below ww.heap.size ww w') := by
  intro ww hw
  subst hw
  refine Calls.mono (nState q b r d _ dg (P3 m g cap) ww q2 d1 d2) ?_
  rintro e w' ⟨rfl, h⟩
  exact ⟨_, _, _, _, rfl, h⟩
 clear d1 d2 d3 d4 d5 d6 u2 h1
 go_wp2_with fail
 refine Calls.mono (HS2.out _ rfl) ?_
 rintro e w3 ⟨a, c, o, l, rfl, h3⟩
 have z3 := h3.size
 have lb := N1.bd.lt
 have lr := N1.rd.bg.lt
 have ld := N1.rd.dk.lt
 have lm := N1.rg.lt
 have lq : q < w2.heap.size := World.block_lt_of_cell? w2 ⟨q, 0, none⟩ q2
 have D3 := D2.below h3
 have q3 := memLater h3 q2
 clear HS2 HO
 have D4 := D3.below ((Below.refl _ w3).alloc (Nat.le_refl _) (.cells #[.string k3, .int .i64 a, .int .i64 c, .int .i64 o, .bool l] 32))
 have q4 := memLater ((Below.refl _ w3).alloc (Nat.le_refl _) (.cells #[.string k3, .int .i64 a, .int .i64 c, .int .i64 o, .bool l] 32)) q3
 have s4 : (w3.alloc (.cells #[.string k3, .int .i64 a, .int .i64 c, .int .i64 o, .bool l] 32)).cell? ⟨w3.heap.size, 0, none⟩ = some (.string k3) := by simp
 have z4 : (w3.alloc (.cells #[.string k3, .int .i64 a, .int .i64 c, .int .i64 o, .bool l] 32)).heap.size = w3.heap.size + 1 := by simp
 have B4 : Below w.heap.size w (w3.alloc (.cells #[.string k3, .int .i64 a, .int .i64 c, .int .i64 o, .bool l] 32)) := by
  repeat exact qB
 go_wp2_with fail
 generalize (w3.alloc (.cells #[.string k3, .int .i64 a, .int .i64 c, .int .i64 o, .bool l] 32)) = v4 at *
 generalize w3.heap.size = S3 at *
 refine Calls.mono (kType_u w1 v4 q b r d m N1.ly q4 D4) ?_
 rintro e w5 ⟨rfl, ⟨dg5, b5⟩, ⟨p5, r5, t5, _, _, m5, g5⟩, u5⟩
 have z5 := u5.size
 have q5 := u5.was q4 (by simp [N1.qb, N1.qr, N1.qd])
 have s5 := u5.was s4 qs
 have B5 : Below w.heap.size w w5 := B4.trans (below_of_upd u5 qo (by intro x hx; simp at hx; rcases hx with hx | hx | hx <;> (rw [hx]; first | exact N1.lb | exact N1.lr | exact N1.ld)))
 have HS5 : Hid (∀ ww, ww = w5 → Calls Tryz.prog 18 #[.pointer (some ⟨q, 0, none⟩)] ww fun e w' => ∃ a c o : Int, ∃ l, e = .returned (.agg #[.string k7, .int .i64 a, .int .i64 c, .int .i64 o, .bool l]) ∧ Below ww.heap.size ww w') := by
  intro ww hw
  subst hw
  refine Calls.mono (nState q b r d _ dg5 p5 ww q5 b5 r5) ?_
  rintro e w' ⟨rfl, h⟩
  rw [t5]
  exact ⟨_, _, _, _, rfl, h⟩
 have hf34 : f1 34 = .agg #[.string k4, .bool false] := rfl
 clear u5 D4 D3 D2 s4 q4 q3 q2 B4 B2 h3
 go_wp2_with fail
 refine Calls.mono (HS5.out _ rfl) ?_
 rintro e w6 ⟨a6, c6, o6, l6, rfl, h6⟩
 have z6 := h6.size
 have b6 := b5.below h6
 have r6 := r5.below h6
 have g6 := g5.below h6
 have q6 := memLater h6 q5
 have s6 := memLater h6 s5
 have B6 : Below w.heap.size w w6 := by
  repeat exact qB
 clear HS5 b5 r5 g5 q5 s5 B5 h6
 have al := (Below.refl _ w6).alloc (Nat.le_refl _) (.cells #[.string k7, .int .i64 a6, .int .i64 c6, .int .i64 o6, .bool l6] 32)
 have b7 := b6.below al
 have r7 := r6.below al
 have g7 := g6.below al
 have q7 := memLater al q6
 have s7 := memLater al s6
 have t7 : (w6.alloc (.cells #[.string k7, .int .i64 a6, .int .i64 c6, .int .i64 o6, .bool l6] 32)).cell? ⟨w6.heap.size, 0, none⟩ = some (.string k7) := by simp
 have z7 : (w6.alloc (.cells #[.string k7, .int .i64 a6, .int .i64 c6, .int .i64 o6, .bool l6] 32)).heap.size = w6.heap.size + 1 := by simp
 have B7 : Below w.heap.size w (w6.alloc (.cells #[.string k7, .int .i64 a6, .int .i64 c6, .int .i64 o6, .bool l6] 32)) := by
  repeat exact qB
 go_wp2_with fail
 generalize (w6.alloc (.cells #[.string k7, .int .i64 a6, .int .i64 c6, .int .i64 o6, .bool l6] 32)) = v7 at *
 generalize w6.heap.size = S6 at *
 refine Calls.mono (nRegister_at q b r d m _ dg5 p5 34 f1 k4 false v7 q7 b7 r7 m5 g7 hf34) ?_
 rintro e w8 ⟨rfl, h8⟩
 have s8 := memLater h8 s7
 have t8 := memLater h8 t7
 have B8 : Below w.heap.size w w8 := by
  repeat exact qB
 have x3 : (k3.toList == [116, 119, 111]) = true := by rw [ByteArray.toList_eq]; decide
 have x7 : (k7.toList == [111, 110, 101, 32, 116, 119, 111]) = true := by rw [ByteArray.toList_eq]; decide
 have x4 : (k4.toList == [111, 110, 101, 32]) = true := by rw [ByteArray.toList_eq]; decide
 clear b6 r6 g6 q6 s6 b7 r7 g7 q7 s7 t7 B6 B7 al h8
 go_wp2
 go_ret
 exact ⟨rfl, B8⟩
def hasB (s : ByteArray) (c : Int) : Bool := decide (Nib.up (fun i => !(bt s i == c)) s.size 0 < s.size)
theorem kIn (s : ByteArray) (c : Int) (w : World) (hs : s.size ≤ 1000) :
  qC 21 #[.string s, .int .u8 c] w (.bool (hasB s c)) := by
 have HI : Hid (hasB s c = decide (Nib.up (fun i => !(bt s i == c)) s.size 0 < s.size)) := rfl
 generalize hasB s c = B at *
 go_enter func21, ntmps21
 go_wp2
 go_loopw [5] (fun a wr => ∃ q : Nat, q ≤ s.size ∧ a = .int .i64 q ∧ Hid (B = decide (Nib.up (fun i => !(bt s i == c)) s.size q < s.size)) ∧ Below w.heap.size w wr) (fun a _ => s.size - (intOf a).toNat)
 case atStart => exact ⟨0, Nat.zero_le _, rfl, HI, Below.refl _ _⟩
 case round =>
  clear HI
  obtain ⟨q, hq, rfl, hu, BB⟩ := hrel
  by_cases hlt : q < s.size
  ·have i1 : ((q : Nat) : Int) < ((s.size : Nat) : Int) := by omega
   by_cases hc : bt s q = c
   ·have HZ : B = true := by
     rw [hu.out, up_stop (by simp [hc])]
     simp [hlt]
    have HE : ((((s[q]'hlt).toNat : Nat) : Int) == c) = true := by rw [← bt_in hlt]; simp [hc]
    subst HZ
    clear hu hc
    go_wp2
    go_ret
    exact ⟨rfl, BB⟩
   ·have HS : Hid (B = decide (Nib.up (fun i => !(bt s i == c)) s.size (q + 1) < s.size)) := by rw [Hid, hu.out, up_step hlt (by simp [hc])]
    have HE : ((((s[q]'hlt).toNat : Nat) : Int) == c) = false := by rw [← bt_in hlt]; simp [hc]
    clear hu hc
    go_wp2
    go_round
    case rel => exact ⟨q + 1, by omega, by go_num, HS, BB⟩
    case measure => simp [intOf] <;> omega
  ·have HZ : B = false := by
    rw [hu.out, up_stop (fun h => hlt h.1)]
    simp; omega
   subst HZ
   clear hu
   go_wp2
   go_ret
   exact ⟨rfl, BB⟩
