/- A part. -/
import Derived.Test.YtlendfhehhacpaaGreatS52
set_option linter.unusedVariables false
set_option linter.unusedSimpArgs false
set_option maxRecDepth 100000
set_option maxHeartbeats 8000000
namespace Go.Proofs.YtlendfhehhacpaaGreat
open Go.RowKit Nib Tryz
def InsP (ns : List UInt8) : Prop := ∃ us c js q, ns = us ++ c :: js ∧ runK bg0 us = some q ∧ okK q (c.toNat : Int) ∧ nxt q (c.toNat : Int) = none ∧ insK q (c.toNat : Int) ∧ ∀ k, k ∈ js → ¬ (k.toNat : Int) = 27
def TyOk (p : Pg) (ns : List UInt8) : Prop := (p.mode = 0 ∧ runK bg0 ns = some (bg p)) ∨ (p.mode = 1 ∧ (ns = [] ∨ InsP ns)) ∨ ((p.mode = 2 ∨ p.mode = 3) ∧ ns = [])
structure Inv (t0 : ByteArray) (m N : Nat) (p : Pg) (f : Int → Value) (ns : List UInt8) (dg : ByteArray) (x : Hst) : Prop where
 g : GoodC m p
 b : GoodB p
 f : GoodF f
 h : HOk p x N
 n : ns.length ≤ N
 t : ¬ p.mode = 1 → p.t = p.now
 y : TyOk p ns
 d : DoOk dg
 z : dg.size ≤ N
 o : orgT x.1 x.2.1 = t0
 q : p.mode = 1 → x.2.1.length + x.2.2.length + 1 ≤ N
def StS (t0 : ByteArray) (w0 : World) (Ow : List Nat) (b r d m N : Nat) (ww : World) : Prop := ∃ p f tv ns dg x, Inv t0 m N p f ns dg x ∧ Mem w0 Ow b r d m p f tv ns dg x ww
def StF (t0 : ByteArray) (w0 : World) (Ow : List Nat) (b r d m N : Nat) (p : Pg) (f : Int → Value) (x : Hst) (ww : World) : Prop := ∃ tv ns dg, Inv t0 m N p f ns dg x ∧ Mem w0 Ow b r d m p f tv ns dg x ww
def StX (t0 : ByteArray) (w0 : World) (Ow : List Nat) (b r d m N : Nat) (p : Pg) (x : Hst) (ww : World) : Prop := ∃ f tv ns dg, Inv t0 m N p f ns dg x ∧ Mem w0 Ow b r d m p f tv ns dg x ww
def StZ (t0 : ByteArray) (w0 : World) (Ow : List Nat) (b r d m N : Nat) (ww : World) : Prop := ∃ p f tv ns dg x, Inv t0 m N p f ns dg x ∧ Mem w0 Ow b r d m p f tv ns dg x ww ∧ p.mode = 0 ∧ p.none' = p
theorem bg_none {p : Pg} (h : p.none' = p) : bg p = bg0 := by rw [← h]; rfl
theorem do_normal {p : Pg} {ns : List UInt8} {c : UInt8} (hr : runK bg0 ns = some (bg p)) (hk : okK p (c.toNat : Int)) (hn : nxt p (c.toNat : Int) = none) (hi : ¬ insK p (c.toNat : Int)) : DoOk ⟨(ns ++ [c]).toArray⟩ :=
 Or.inr ⟨ns ++ [c], rfl, by simp, fun p2 hm h2 => Or.inl ⟨hm, ns, c, [], bg p, rfl, by rw [bg_none h2]; exact hr, hk, by rw [nxt_bg, hn]; rfl, Or.inl ⟨hi, rfl⟩⟩⟩
theorem do_insert {ns : List UInt8} (h : InsP ns) : DoOk ⟨(ns ++ [27]).toArray⟩ := by
 obtain ⟨us, c, js, q, h1, h2, h3, h4, h5, h6⟩ := h
 exact Or.inr ⟨ns ++ [27], rfl, by simp, fun p2 hm hn => Or.inl ⟨hm, us, c, js ++ [27], q, by rw [h1]; simp, by rw [bg_none hn]; exact h2, h3, h4, Or.inr ⟨h5, js, rfl, h6⟩⟩⟩
structure Fct (t0 : ByteArray) (m N : Nat) (ns2 : List UInt8) (Z : Prop) (s : Int × Pg × (Int → Value) × Hst) : Prop where
 o : s.1 = 1 ∨ s.1 = 2 ∨ s.1 = 4
 g : GoodC m s.2.1
 f : GoodF s.2.2.1
 n : s.2.1.none' = s.2.1
 m : ¬ s.2.1.mode = 1
 h : HOk s.2.1 s.2.2.2 N
 d : s.1 = 2 → 0 < ns2.length → DoOk ⟨ns2.toArray⟩
 z : Z → s.2.1.mode = 0
 r : orgT s.2.2.2.1 s.2.2.2.2.1 = t0
theorem nn_with {q : Pg} {t : ByteArray} {bk fo : Value} (h : q.none' = q) : ({ q with now := t, back := bk, forth := fo } : Pg).none' = { q with now := t, back := bk, forth := fo } := congrArg (fun q : Pg => { q with now := t, back := bk, forth := fo }) h
theorem sEnd (K : Int → Pg → (Int → Value) → Hst → Prop) {t0 : ByteArray} {w0 : World} {Ow : List Nat} {b r d m : Nat} (X : Fix w0 Ow b r d m) {p : Pg} {f : Int → Value} {tv : Value} {ns : List UInt8} {dg : ByteArray} {x : Hst} {N : Nat} (c : UInt8) (inv : Inv t0 m N p f ns dg x) (hN : N ≤ 90000) (ns2 : List UInt8) (hns : ns2.length ≤ N + 1)
  (KP : ∀ {p2 : Pg} {f2 : Int → Value} {x2 : Hst} ww, Mem w0 Ow b r d m p2 f2 tv ns dg x2 ww → Calls Tryz.prog 47 #[.pointer (some ⟨b, 1, none⟩), .int .u8 c.toNat, .int .i64 p.mode] ww fun e w' => e = .returned (.tuple #[]) ∧ ∃ tv', Mem w0 Ow b r d m p2 f2 tv' ns2 dg x2 w')
  (HT : ∀ ww, Mem w0 Ow b r d m p f tv ns dg x ww → Calls Tryz.prog 46 #[.pointer (some ⟨b, 0, none⟩), .int .u8 c.toNat] ww fun e w' => ∃ s : Int × Pg × (Int → Value) × Hst, e = .returned (.int .i64 s.1) ∧ Fct t0 m N ns2 ((c.toNat : Int) = 27) s ∧ Mem w0 Ow b r d m s.2.1 s.2.2.1 tv ns dg s.2.2.2 w' ∧ K s.1 s.2.1 s.2.2.1 s.2.2.2) :
  ∀ ww, Mem w0 Ow b r d m p f tv ns dg x ww → Calls Tryz.prog 38 #[.pointer (some ⟨b, 0, none⟩), .int .u8 c.toNat] ww fun e w' => ∃ (O : Int) (q : Pg) (f2 : Int → Value) (y : Hst) (bk fo : Value), e = .returned (.int .i64 O) ∧ StF t0 w0 Ow b r d m (N + 1) { q with now := q.t, back := bk, forth := fo } f2 (kpx q y) w' ∧ K O q f2 y ∧ q.none' = q ∧ ((c.toNat : Int) = 27 → q.mode = 0) := by
 intro ww M
 refine Calls.mono (press_endS (σ := Int × Pg × (Int → Value) × Hst) b r d p c.toNat (fun s => s.1) (fun s => s.2.1.t) (Mem w0 Ow b r d m p f tv ns dg x)
  (fun s w2 => (Fct t0 m N ns2 ((c.toNat : Int) = 27) s ∧ K s.1 s.2.1 s.2.2.1 s.2.2.2) ∧ Mem w0 Ow b r d m s.2.1 s.2.2.1 tv ns dg s.2.2.2 w2)
  (fun s w2 => (Fct t0 m N ns2 ((c.toNat : Int) = 27) s ∧ K s.1 s.2.1 s.2.2.1 s.2.2.2) ∧ ∃ tv', Mem w0 Ow b r d m s.2.1 s.2.2.1 tv' ns2 dg s.2.2.2 w2)
  (fun s w2 => (Fct t0 m N ns2 ((c.toNat : Int) = 27) s ∧ K s.1 s.2.1 s.2.2.1 s.2.2.2) ∧ Mem w0 Ow b r d m s.2.1 s.2.2.1 (.slice none 0 0) [] (if s.1 = 2 ∧ 0 < ns2.length then ⟨ns2.toArray⟩ else dg) s.2.2.2 w2)
  (fun s w2 => (Fct t0 m N ns2 ((c.toNat : Int) = 27) s ∧ K s.1 s.2.1 s.2.2.1 s.2.2.2) ∧ ∃ bk fo, HOk { s.2.1 with now := s.2.1.t, back := bk, forth := fo } (kpx s.2.1 s.2.2.2) (N + 1) ∧ Mem w0 Ow b r d m { s.2.1 with now := s.2.1.t, back := bk, forth := fo } s.2.2.1 (.slice none 0 0) [] (if s.1 = 2 ∧ 0 < ns2.length then ⟨ns2.toArray⟩ else dg) (kpx s.2.1 s.2.2.2) w2)
  ww M (fun _ h => ⟨⟨_, _, h.bd⟩, h.rd⟩) (fun s w2 h => ⟨_, _, h.2.bd⟩) ?_ (fun s w2 h => ⟨_, _, _, h.2.bd, h.2.rd, rfl⟩) ?_ (fun s w2 h => ⟨h.1, Mem.firm _ _ h.2 ((Below.refl _ _).drew)⟩) ?_ ?_ ?_ ?_) ?_
 ·rintro s w2 ⟨h1, tv', h2⟩
  exact ⟨_, _, _, h2.bd, h2.rd, h1.1.m⟩
 ·rintro s w2 ⟨h1, bk, fo, h2, h3⟩
  exact ⟨⟨_, _, h3.bd⟩, h3.rd.bg.c0, h3.rd.dk.c0⟩
 ·intro w2 M2
  refine Calls.mono (HT w2 M2) ?_
  rintro e w' ⟨s, rfl, h1, h2, hK⟩
  exact ⟨s, rfl, by have := h1.o; show ¬ s.1 = 0; omega, ⟨h1, hK⟩, h2⟩
 ·intro s w2 h
  refine Calls.mono (KP w2 h.2) ?_
  rintro e w' ⟨rfl, tv', h2⟩
  exact ⟨rfl, h.1, tv', h2⟩
 ·rintro s w2 ⟨h1, tv', h2⟩
  refine Calls.mono (en X s.1 w2 h2) ?_
  rintro e w' ⟨rfl, h3⟩
  exact ⟨rfl, h1, h3⟩
 ·intro s w2 h
  refine Calls.mono (hk X s.2.1 h.1.1.g h.1.1.h qo w2 h.2) ?_
  rintro e w' ⟨rfl, bk, fo, h3, h4⟩
  exact ⟨rfl, h.1, bk, fo, h3, h4⟩
 ·rintro e w' ⟨s, rfl, ⟨h1, hK⟩, bk, fo, h2, h3⟩
  have hq : ({ s.2.1 with now := s.2.1.t, back := bk, forth := fo } : Pg).none' = { s.2.1 with now := s.2.1.t, back := bk, forth := fo } := congrArg (fun q : Pg => { q with now := s.2.1.t, back := bk, forth := fo }) h1.n
  have hg := h1.g
  refine ⟨s.1, s.2.1, s.2.2.1, s.2.2.2, bk, fo, rfl, ⟨_, [], _, ?_, h3⟩, hK, h1.n, h1.z⟩
  refine ⟨⟨hg.ts, hg.pl, hg.st, hg.an, hg.mo, hg.n, hg.bh, hg.fd, hg.rg⟩, hq ▸ GoodB.none _, h1.f, h2, Nat.zero_le _, fun _ => rfl, ?_, ?_, ?_, (orgT_kpx _ _ h1.h.now).trans h1.r, fun h => absurd h h1.m⟩
  ·by_cases hm : s.2.1.mode = 0
   ·exact Or.inl ⟨hm, by rw [bg_none hq]; rfl⟩
   ·have := hg.mo
    have := h1.m
    exact Or.inr (Or.inr ⟨by show s.2.1.mode = 2 ∨ s.2.1.mode = 3; omega, rfl⟩)
  ·split
   ·next h => exact h1.d h.1 h.2
   ·exact inv.d
  ·split
   ·show ns2.toArray.size ≤ N + 1
    simpa using hns
   ·have := inv.z; omega
theorem Inv.more {t0 : ByteArray} {m N : Nat} {p : Pg} {f : Int → Value} {ns : List UInt8} {dg : ByteArray} {x : Hst} (h : Inv t0 m N p f ns dg x) {p2 : Pg} {f2 : Int → Value} {ns2 : List UInt8} (hg : GoodC m p2) (hb : GoodB p2) (hf : GoodF f2) (e : p2.now = p.now) (hn : ns2.length ≤ N + 1) (ht : ¬ p2.mode = 1 → p2.t = p2.now) (hy : TyOk p2 ns2) : Inv t0 m (N + 1) p2 f2 ns2 dg x :=
 ⟨hg, hb, hf, ⟨e.trans h.h.now, h.h.z, h.h.b, h.h.f, Nat.le_succ_of_le h.h.n⟩, hn, ht, hy, h.d, Nat.le_succ_of_le h.z, h.o, fun _ => by have := h.h.n; omega⟩
theorem sGoP {t0 : ByteArray} {w0 : World} {Ow : List Nat} {b r d m : Nat} {p p2 : Pg} {f f2 : Int → Value} {tv : Value} {ns ns2 : List UInt8} {dg : ByteArray} {x : Hst} {N : Nat} (c : UInt8) (k27 : ¬ (c.toNat : Int) = 27) (O : Int) (hO : O = 0 ∨ (¬ O = 0 ∧ p2.mode = 1)) (inv2 : Inv t0 m (N + 1) p2 f2 ns2 dg x)
  (KP : ∀ ww, Mem w0 Ow b r d m p2 f2 tv ns dg x ww → Calls Tryz.prog 47 #[.pointer (some ⟨b, 1, none⟩), .int .u8 c.toNat, .int .i64 p.mode] ww fun e w' => e = .returned (.tuple #[]) ∧ ∃ tv', Mem w0 Ow b r d m p2 f2 tv' ns2 dg x w')
  (HT : ∀ ww, Mem w0 Ow b r d m p f tv ns dg x ww → Calls Tryz.prog 46 #[.pointer (some ⟨b, 0, none⟩), .int .u8 c.toNat] ww fun e w' => e = .returned (.int .i64 O) ∧ Mem w0 Ow b r d m p2 f2 tv ns dg x w') :
  ∀ ww, Mem w0 Ow b r d m p f tv ns dg x ww → Calls Tryz.prog 38 #[.pointer (some ⟨b, 0, none⟩), .int .u8 c.toNat] ww fun e w' => ∃ (O : Int) (p2 : Pg) (x2 : Hst), e = .returned (.int .i64 O) ∧ StX t0 w0 Ow b r d m (N + 1) p2 x2 w' ∧ ((c.toNat : Int) = 27 → p2.mode = 0 ∧ p2.none' = p2 ∧ (p.mode = 1 → x2.2.1.length + x2.2.2.length ≤ x.2.1.length + x.2.2.length + 1) ∧ (¬ p.mode = 1 → x2 = x ∧ p2.t = p.t)) := by
 intro ww M
 rcases hO with hO | ⟨hO, hm⟩
 ·subst hO
  refine Calls.mono (press_go b r d p c.toNat (Mem w0 Ow b r d m p f tv ns dg x) (Mem w0 Ow b r d m p2 f2 tv ns dg x) (fun w' => ∃ tv', Mem w0 Ow b r d m p2 f2 tv' ns2 dg x w') ww M (fun _ h => ⟨⟨_, _, h.bd⟩, h.rd⟩) (fun _ h => ⟨_, _, h.bd⟩) HT KP) ?_
  rintro e w' ⟨rfl, tv', h⟩
  exact ⟨0, _, _, rfl, ⟨_, _, _, _, inv2, h⟩, fun e => absurd e k27⟩
 ·refine Calls.mono (press_ins b r d p p2 c.toNat O (Mem w0 Ow b r d m p f tv ns dg x) (Mem w0 Ow b r d m p2 f2 tv ns dg x) (fun w' => ∃ tv', Mem w0 Ow b r d m p2 f2 tv' ns2 dg x w') ww M (fun _ h => ⟨⟨_, _, h.bd⟩, h.rd⟩) (fun _ h => ⟨_, _, h.bd⟩) (fun _ h => by obtain ⟨tv', h⟩ := h; exact ⟨⟨_, _, h.bd⟩, h.rd⟩) hO hm HT KP) ?_
  rintro e w' ⟨rfl, tv', h⟩
  exact ⟨O, _, _, rfl, ⟨_, _, _, _, inv2, h⟩, fun e => absurd e k27⟩
theorem HOk.of {p p2 : Pg} {x : Hst} {N : Nat} (h : HOk p x N) (e : p2.now = p.now) : HOk p2 x N := ⟨e.trans h.now, h.z, h.b, h.f, h.n⟩
theorem qt74 {P : Prop} (h : P := by
  rintro e w' ⟨rfl, h⟩
  exact ⟨(1, { p.none' with mode := 0, anchor := 0 }, f, x), rfl, ⟨Or.inl rfl, escN inv.g hm1, inv.f, rfl, by show ¬ (0 : Int) = 1; decide, inv.h.of rfl, (fun h => absurd h (by show ¬ (1 : Int) = 2; decide)), fun _ => rfl, inv.o⟩, h, fun _ => ⟨rfl, rfl, rfl⟩⟩
 ) : P := h
theorem sPressX (HA : AnyOk) {t0 : ByteArray} {w0 : World} {Ow : List Nat} {b r d m : Nat} (X : Fix w0 Ow b r d m) {N : Nat} (c : UInt8) (hN : N ≤ 90000) (p : Pg) (x : Hst) : ∀ ww, StX t0 w0 Ow b r d m N p x ww →
  Calls Tryz.prog 38 #[.pointer (some ⟨b, 0, none⟩), .int .u8 c.toNat] ww fun e w' => ∃ (O : Int) (p2 : Pg) (x2 : Hst), e = .returned (.int .i64 O) ∧ StX t0 w0 Ow b r d m (N + 1) p2 x2 w' ∧ ((c.toNat : Int) = 27 → p2.mode = 0 ∧ p2.none' = p2 ∧ (p.mode = 1 → x2.2.1.length + x2.2.2.length ≤ x.2.1.length + x.2.2.length + 1) ∧ (¬ p.mode = 1 → x2 = x ∧ p2.t = p.t)) := by
 rintro ww ⟨f, tv, ns, dg, inv, M⟩
 have hn := inv.n
 have ln : (ns ++ [c]).length ≤ N + 1 := by simp; omega
 have FIN : ∀ (e : Ending) (w' : World), (∃ (O : Int) (q : Pg) (f2 : Int → Value) (y : Hst) (bk fo : Value), e = .returned (.int .i64 O) ∧ StF t0 w0 Ow b r d m (N + 1) { q with now := q.t, back := bk, forth := fo } f2 (kpx q y) w' ∧ ((c.toNat : Int) = 27 → y = x ∧ q.t = p.t ∧ q.now = p.now) ∧ q.none' = q ∧ ((c.toNat : Int) = 27 → q.mode = 0)) → ∃ (O : Int) (p2 : Pg) (x2 : Hst), e = .returned (.int .i64 O) ∧ StX t0 w0 Ow b r d m (N + 1) p2 x2 w' ∧ ((c.toNat : Int) = 27 → p2.mode = 0 ∧ p2.none' = p2 ∧ (p.mode = 1 → x2.2.1.length + x2.2.2.length ≤ x.2.1.length + x.2.2.length + 1) ∧ (¬ p.mode = 1 → x2 = x ∧ p2.t = p.t)) := by
  rintro e w' ⟨O, q, f2, y, bk, fo, h1, h2, h3, h5, h6⟩
  refine ⟨O, _, kpx q y, h1, ⟨f2, h2⟩, fun k => ?_⟩
  obtain ⟨rfl, a, b'⟩ := h3 k
  refine ⟨h6 k, nn_with h5, fun _ => kpx_len q y, fun hm => ⟨?_, a⟩⟩
  exact if_pos (by rw [a, b']; exact inv.t hm)
 rcases inv.g.mo with hm | hm | hm
 ·
  have hm1 : ¬ p.mode = 1 := by rw [hm]; decide
  have hr : runK bg0 ns = some (bg p) := by
   rcases inv.y with h | h | h
   ·exact h.2
   ·exact absurd h.1 hm1
   ·have := h.1; omega
  have KP : ∀ {p2 : Pg} {f2 : Int → Value} {x2 : Hst} w2, Mem w0 Ow b r d m p2 f2 tv ns dg x2 w2 → Calls Tryz.prog 47 #[.pointer (some ⟨b, 1, none⟩), .int .u8 c.toNat, .int .i64 p.mode] w2 fun e w' => e = .returned (.tuple #[]) ∧ ∃ tv', Mem w0 Ow b r d m p2 f2 tv' (ns ++ [c]) dg x2 w' := by
   intro p2 f2 x2 w2 M2
   rw [hm]
   exact kpN X c qo w2 M2
  by_cases k27 : (c.toNat : Int) = 27
  ·refine Calls.mono (sEnd (fun _ q _ y => (c.toNat : Int) = 27 → y = x ∧ q.t = p.t ∧ q.now = p.now) X c inv hN (ns ++ [c]) ln KP (fun w2 M2 => ?_) ww M) FIN
   rw [k27]
   refine Calls.mono (tkX X p f tv ns dg x inv.g hm1 w2 M2) ?_
   exact qt74
  by_cases hx : p.verb = 0 → p.part = 0 → ¬ (c.toNat : Int) = 117 ∧ ¬ (c.toNat : Int) = 18 ∧ ¬ (c.toNat : Int) = 46
  ·rcases tkN HA X p f tv ns dg x c inv.g inv.b inv.f hm k27 hx with ⟨p2, h1, h2, h3, h4, h5⟩ | ⟨h1, O, p2, f2, g1, g2, g3, g4, g5, g6, g7, g8⟩
   ·obtain ⟨a1, a2, a3, a4, a5, e⟩ := h4
    have e1 : p2.mode = p.mode := by rw [e]
    have e2 : p2.t = p.t := by rw [e]
    have e3 : p2.now = p.now := by rw [e]
    exact sGoP c k27 0 (Or.inl rfl) (inv.more h2 h3 inv.f e3 ln (fun _ => by rw [e2, e3]; exact inv.t hm1) (Or.inl ⟨e1.trans hm, by rw [runK_add, hr]; show nxt (bg p) (c.toNat : Int) = _; rw [nxt_bg, h1]; rfl⟩)) KP h5.out ww M
   ·by_cases hp2 : p2.mode = 1
    ·have hO4 : ¬ O = 4 := fun e => hm1 (by rw [← g6 e]; exact hp2)
     refine sGoP c k27 O (Or.inr ⟨by omega, hp2⟩) (inv.more g2 (g4 ▸ GoodB.none p2) g3 g5.1 ln (fun h => absurd hp2 h) (Or.inr (Or.inl ⟨hp2, Or.inr ⟨ns, c, [], bg p, rfl, hr, ⟨k27, hx⟩, by rw [nxt_bg, h1]; rfl, (g7 hO4).1 hp2, by simp⟩⟩))) KP g8.out ww M
    ·refine Calls.mono (sEnd (fun _ q _ y => (c.toNat : Int) = 27 → y = x ∧ q.t = p.t ∧ q.now = p.now) X c inv hN (ns ++ [c]) ln KP (fun w2 M2 => ?_) ww M) FIN
     refine Calls.mono (g8.out w2 M2) ?_
     rintro e w' ⟨rfl, h⟩
     exact ⟨(O, p2, f2, x), rfl, ⟨g1, g2, g3, g4, hp2, inv.h.of g5.1, (fun e _ => do_normal hr ⟨k27, hx⟩ h1 (fun hi => hp2 ((g7 (by have : O = 2 := e; omega)).2 hi))), fun e => absurd e k27, inv.o⟩, h, fun e => absurd e k27⟩
  ·have hv : p.verb = 0 := by
    rcases isVb_or inv.b with h | h
    ·exact h
    ·exact absurd (fun e => absurd e (vb_flags h).2) hx
   have hp : p.part = 0 := by
    by_cases h : p.part = 0
    ·exact h
    ·exact absurd (fun _ e => absurd e h) hx
   have hk3 : (c.toNat : Int) = 117 ∨ (c.toNat : Int) = 18 ∨ (c.toNat : Int) = 46 := by
    by_cases h1 : (c.toNat : Int) = 117
    ·exact Or.inl h1
    ·by_cases h2 : (c.toNat : Int) = 18
     ·exact Or.inr (Or.inl h2)
     ·by_cases h3 : (c.toNat : Int) = 46
      ·exact Or.inr (Or.inr h3)
      ·exact absurd (fun _ _ => ⟨h1, h2, h3⟩) hx
   have wt : ∀ (pq : Pg) (y : Hst) w', orgT y.1 y.2.1 = t0 → WentN w0 Ow b r d m f tv ns dg pq y N w' → ∀ O : Int, (O = 1 ∨ O = 4) → ∃ s : Int × Pg × (Int → Value) × Hst, O = s.1 ∧ Fct t0 m N (ns ++ [c]) ((c.toNat : Int) = 27) s ∧ Mem w0 Ow b r d m s.2.1 s.2.2.1 tv ns dg s.2.2.2 w' := by
    rintro pq y w' hy ⟨p2, _, h1, h2, h3, h4, h5, h6⟩ O hO
    exact ⟨(O, p2, f, y), rfl, ⟨by show O = 1 ∨ O = 2 ∨ O = 4; omega, h1, inv.f, h2, by rw [h3]; decide, h5, (fun e => by have : O = 2 := e; omega), fun e => absurd e k27, hy⟩, h6⟩
   refine Calls.mono (sEnd (fun _ q _ y => (c.toNat : Int) = 27 → y = x ∧ q.t = p.t ∧ q.now = p.now) X c inv hN (ns ++ [c]) ln KP (fun w2 M2 => ?_) ww M) FIN
   rcases hk3 with hk | hk | hk
   ·have T := tkU X p f tv ns dg x N inv.g hm hv hp (inv.t hm1) inv.h qo w2 M2
    rw [← hk] at T
    refine Calls.mono T ?_
    rintro e w' ⟨rfl, h⟩
    obtain ⟨s, e1, e2, e3⟩ := wt _ _ w' ((orgT_wlkN x _).trans inv.o) h (if x.2.1.length = 0 then 4 else 1) (by split <;> simp)
    exact ⟨s, by rw [e1], e2, e3, fun e => absurd e k27⟩
   ·have T := tkRe X p f tv ns dg (swp x) N inv.g hm hv hp (inv.t hm1) (by rw [swp_swp]; exact inv.h) qo w2 (by rw [swp_swp]; exact M2)
    rw [← hk] at T
    refine Calls.mono T ?_
    rintro e w' ⟨rfl, h⟩
    have ho : orgT (swp (wlkN (min (max (cnt p) 1) (swp x).2.1.length) (swp x))).1 (swp (wlkN (min (max (cnt p) 1) (swp x).2.1.length) (swp x))).2.1 = t0 := by
     refine (orgT_swpN (swp x) _).trans ?_
     show orgT x.1 x.2.1.reverse.reverse = t0
     rw [List.reverse_reverse]
     exact inv.o
    obtain ⟨s, e1, e2, e3⟩ := wt _ _ w' ho h (if (swp x).2.1.length = 0 then 4 else 1) (by split <;> simp)
    exact ⟨s, by rw [e1], e2, e3, fun e => absurd e k27⟩
   ·have T := tkD HA X p f tv ns dg x inv.g inv.f hm hv hp inv.d (by have := inv.z; omega) w2 M2
    rw [← hk] at T
    refine Calls.mono T ?_
    rintro e w' ⟨O, rfl, hO, p2, f2, h1, h2, h3, h4, h5, h6⟩
    exact ⟨(O, p2, f2, x), rfl, ⟨by show O = 1 ∨ O = 2 ∨ O = 4; omega, h1, h2, h3, h5, inv.h.of h4.1, (fun e => by have : O = 2 := e; omega), fun e => absurd e k27, inv.o⟩, h6, fun e => absurd e k27⟩
 ·
  have hy : ns = [] ∨ InsP ns := by
   rcases inv.y with h | h | h
   ·have := h.1; omega
   ·exact h.2
   ·have := h.1; omega
  have KP : ∃ ns2 : List UInt8, ns2.length ≤ N + 1 ∧ ((ns2 = [] ∧ ns = []) ∨ (InsP ns ∧ ns2 = ns ++ [c])) ∧ ∀ {p2 : Pg} {f2 : Int → Value} {x2 : Hst} w2, Mem w0 Ow b r d m p2 f2 tv ns dg x2 w2 → Calls Tryz.prog 47 #[.pointer (some ⟨b, 1, none⟩), .int .u8 c.toNat, .int .i64 p.mode] w2 fun e w' => e = .returned (.tuple #[]) ∧ ∃ tv', Mem w0 Ow b r d m p2 f2 tv' ns2 dg x2 w' := by
   rcases hy with h | h
   ·refine ⟨[], Nat.zero_le _, Or.inl ⟨rfl, h⟩, ?_⟩
    intro p2 f2 x2 w2 M2
    rw [h] at M2
    exact kp0 c p.mode (Or.inl hm) w2 M2
   ·refine ⟨ns ++ [c], ln, Or.inr ⟨h, rfl⟩, ?_⟩
    intro p2 f2 x2 w2 M2
    rw [hm]
    have h0 : 0 < ns.length := by
     obtain ⟨us, k, js, q, e, _⟩ := h
     rw [e]; simp; omega
    exact kpI X c qo h0 w2 M2
  obtain ⟨ns2, l2, hs2, KP⟩ := KP
  by_cases k27 : (c.toNat : Int) = 27
  ·have hc : c = 27 := by
    apply UInt8.toNat_inj.1
    show c.toNat = 27
    omega
   refine Calls.mono (sEnd (fun _ q _ y => (c.toNat : Int) = 27 → y = x ∧ q.t = p.t ∧ q.now = p.now) X c inv hN ns2 l2 KP (fun w2 M2 => ?_) ww M) FIN
   rw [k27]
   refine Calls.mono (tkE X p f tv ns dg x inv.g hm w2 M2) ?_
   rintro e w' ⟨rfl, h⟩
   obtain ⟨z1, z2, z3, z4, z5⟩ := inv.b.ins hm
   have hnn : ({ p with pl := escPl p, mode := 0, anchor := 0 } : Pg).none' = { p with pl := escPl p, mode := 0, anchor := 0 } := by
    show ({ p with pl := escPl p, mode := 0, anchor := 0, reg := 0, n := 0, verb := 0, behind := 0, part := 0 } : Pg) = _
    rw [z1, z2, z3, z4, z5]
   refine ⟨(2, { p with pl := escPl p, mode := 0, anchor := 0 }, f, x), rfl, ⟨Or.inr (Or.inl rfl), escG inv.g, inv.f, hnn, by show ¬ (0 : Int) = 1; decide, inv.h.of rfl, (fun _ h0 => ?_), fun _ => rfl, inv.o⟩, h, fun _ => ⟨rfl, rfl, rfl⟩⟩
   rcases hs2 with ⟨e, _⟩ | ⟨h2, e⟩
   ·rw [e] at h0; simp at h0
   ·rw [e, hc]; exact do_insert h2
  ·obtain ⟨a1, a2, a3, a4⟩ := insP_all p c
   have hm2 : ((insP p c).none').mode = 1 := a4.trans hm
   refine sGoP c k27 1 (Or.inr ⟨by decide, hm2⟩) (inv.more (insP_good c inv.g hm).forget (GoodB.none _) inv.f a1 l2 (fun h => absurd hm2 h) (Or.inr (Or.inl ⟨hm2, ?_⟩))) KP (tkI X p f tv ns dg x c inv.g hm k27) ww M
   rcases hs2 with ⟨e, _⟩ | ⟨⟨us, k, js, q, b1, b2, b3, b4, b5, b6⟩, e⟩
   ·exact Or.inl e
   ·refine Or.inr ⟨us, k, js ++ [c], q, by rw [e, b1]; simp, b2, b3, b4, b5, ?_⟩
    intro j hj
    rcases List.mem_append.1 hj with h | h
    ·exact b6 j h
    ·simp at h; rw [h]; exact k27
 ·
  have hm1 : ¬ p.mode = 1 := by omega
  have hns : ns = [] := by
   rcases inv.y with h | h | h
   ·have := h.1; omega
   ·exact absurd h.1 hm1
   ·exact h.2
  subst hns
  have KP : ∀ {p2 : Pg} {f2 : Int → Value} {x2 : Hst} w2, Mem w0 Ow b r d m p2 f2 tv [] dg x2 w2 → Calls Tryz.prog 47 #[.pointer (some ⟨b, 1, none⟩), .int .u8 c.toNat, .int .i64 p.mode] w2 fun e w' => e = .returned (.tuple #[]) ∧ ∃ tv', Mem w0 Ow b r d m p2 f2 tv' [] dg x2 w' := by
   intro p2 f2 x2 w2 M2
   exact kp0 c p.mode (Or.inr hm) w2 M2
  by_cases k27 : (c.toNat : Int) = 27
  ·refine Calls.mono (sEnd (fun _ q _ y => (c.toNat : Int) = 27 → y = x ∧ q.t = p.t ∧ q.now = p.now) X c inv hN [] (Nat.zero_le _) KP (fun w2 M2 => ?_) ww M) FIN
   rw [k27]
   refine Calls.mono (tkX X p f tv [] dg x inv.g hm1 w2 M2) ?_
   exact qt74
  ·rcases tkM HA X p f tv [] dg x c.toNat inv.g inv.b inv.f hm k27 with ⟨p2, h1, h2, h3, h4, h5⟩ | ⟨h1, O, p2, f2, g1, g2, g3, g4, g5, g6, g7, g8⟩
   ·obtain ⟨a1, a2, a3, a4, a5, e⟩ := h4
    have e1 : p2.mode = p.mode := by rw [e]
    have e2 : p2.t = p.t := by rw [e]
    have e3 : p2.now = p.now := by rw [e]
    exact sGoP c k27 0 (Or.inl rfl) (inv.more h2 h3 inv.f e3 (Nat.zero_le _) (fun _ => by rw [e2, e3]; exact inv.t hm1) (Or.inr (Or.inr ⟨by rw [e1]; exact hm, rfl⟩))) KP h5.out ww M
   ·by_cases hp2 : p2.mode = 1
    ·exact sGoP c k27 O (Or.inr ⟨by omega, hp2⟩) (inv.more g2 (g4 ▸ GoodB.none p2) g3 g5.1 (Nat.zero_le _) (fun h => absurd hp2 h) (Or.inr (Or.inl ⟨hp2, Or.inl rfl⟩))) KP g8.out ww M
    ·refine Calls.mono (sEnd (fun _ q _ y => (c.toNat : Int) = 27 → y = x ∧ q.t = p.t ∧ q.now = p.now) X c inv hN [] (Nat.zero_le _) KP (fun w2 M2 => ?_) ww M) FIN
     refine Calls.mono (g8.out w2 M2) ?_
     rintro e w' ⟨rfl, h⟩
     exact ⟨(O, p2, f2, x), rfl, ⟨g1, g2, g3, g4, hp2, inv.h.of g5.1, (fun _ h0 => by simp at h0), fun e => absurd e k27, inv.o⟩, h, fun e => absurd e k27⟩
theorem sPress (HA : AnyOk) {t0 : ByteArray} {w0 : World} {Ow : List Nat} {b r d m : Nat} (X : Fix w0 Ow b r d m) {N : Nat} (c : UInt8) (hN : N ≤ 90000) : ∀ ww, StS t0 w0 Ow b r d m N ww →
  Calls Tryz.prog 38 #[.pointer (some ⟨b, 0, none⟩), .int .u8 c.toNat] ww fun e w' => ∃ O : Int, e = .returned (.int .i64 O) ∧ StS t0 w0 Ow b r d m (N + 1) w' ∧ ((c.toNat : Int) = 27 → StZ t0 w0 Ow b r d m (N + 1) w') := by
 rintro ww ⟨p, f, tv, ns, dg, x, inv, M⟩
 refine Calls.mono (sPressX HA X c hN p x ww ⟨f, tv, ns, dg, inv, M⟩) ?_
 rintro e w' ⟨O, p2, x2, rfl, ⟨f2, tv2, ns2, dg2, i2, M2⟩, h⟩
 exact ⟨O, rfl, ⟨p2, f2, tv2, ns2, dg2, x2, i2, M2⟩, fun k => ⟨p2, f2, tv2, ns2, dg2, x2, i2, M2, (h k).1, (h k).2.1⟩⟩
theorem StS.firm {t0 : ByteArray} {w0 : World} {Ow : List Nat} {b r d m N : Nat} : Firm (StS t0 w0 Ow b r d m N) := by
 rintro w w' ⟨p, f, tv, ns, dg, x, h1, h2⟩ hb
 exact ⟨p, f, tv, ns, dg, x, h1, Mem.firm _ _ h2 hb⟩
theorem StS.up {t0 : ByteArray} {w0 ww : World} {Ow : List Nat} {b r d m N : Nat} (h : StS t0 w0 Ow b r d m N ww) : Upd (b :: r :: d :: m :: Ow) w0 ww := by
 obtain ⟨_, _, _, _, _, _, _, h2⟩ := h
 exact h2.up
theorem New7.sts {w W : World} {q b r d m : Nat} {t : ByteArray} (N : New7 w W q b r d m t) (ht : t.size ≤ 1000) : Fix W [] b r d m ∧ StS t W [] b r d m 0 W := by
 refine ⟨⟨N.ly, N.rd.ne, N.bd.lt, N.rd.bg.lt, N.rd.dk.lt, N.rg.lt, fun k hk => by simp at hk⟩, newPg t m, f0, .slice none 0 0, [], ⟨#[]⟩, (t, [], []), ?_, ?_⟩
 ·exact ⟨⟨ht, Nat.zero_le _, fun _ => zero_settled _, fun _ => Nat.zero_le _, Or.inl rfl, Nat.zero_le _, Nat.zero_le _, Or.inl rfl, rfl⟩, ⟨Or.inl rfl, Or.inl rfl, fun h => absurd h (by show ¬ (0 : Int) = 1; decide)⟩, fun c => ⟨⟨#[]⟩, false, rfl, by decide⟩, ⟨rfl, ht, trivial, trivial, Nat.le_refl _⟩, Nat.le_refl _, fun _ => rfl, Or.inl ⟨rfl, rfl⟩, Or.inl rfl, Nat.le_refl _, rfl, fun h => absurd h (by show ¬ (0 : Int) = 1; decide)⟩
 ·exact ⟨N.bd, N.rd, N.rg, World.ownsRow_nil _ _ _ _, World.ownsRow_nil _ _ _ _, World.ownsRow_nil _ _ _ _, (fun k hk => by simp [Value.ownBlock] at hk), (fun k hk => by simp [newPg, Value.ownBlock] at hk), (fun k hk => by simp [newPg, Value.ownBlock] at hk), (fun k hk => by simp [Value.ownBlock] at hk), (fun k hk => by simp [Value.ownBlock] at hk), (fun k hk => by simp [newPg, Value.ownBlock] at hk), Upd.refl _ _⟩
theorem nTypeY (q b : Nat) (s : ByteArray) (w : World) (Q : Nat → World → Prop) (hq : w.cell? ⟨q, 0, none⟩ = some (.pointer (some ⟨b, 0, none⟩)))
  (HT : Hid (∀ ww, ww = w → Calls Tryz.prog 30 #[.pointer (some ⟨b, 0, none⟩), .string s] ww fun e w' => ∃ n : Nat, e = .returned (.int .i64 n) ∧ Q n w')) :
  Calls Tryz.prog 17 #[.pointer (some ⟨q, 0, none⟩), .string s] w fun e w' => ∃ n : Nat, e = .returned (.int .i64 n) ∧ Q n w' := by
 go_enter func17, ntmps17
 go_wp2_with fail
 refine Calls.mono (HT.out _ rfl) ?_
 rintro e w1 ⟨n, rfl, h1⟩
 have HQ : Hid (Q n w1) := h1
 clear h1
 go_wp2
 go_ret
 exact ⟨n, rfl, HQ.out⟩
theorem two_esc : ∀ k (hk : k < (⟨#[27, 27]⟩ : ByteArray).size), (((⟨#[27, 27]⟩ : ByteArray)[k]'hk).toNat : Int) = 27 := by
 intro k hk
 have hk2 : k < 2 := hk
 match k, hk2 with
 | 0, _ => rfl
 | 1, _ => rfl
theorem StX.firm {t0 : ByteArray} {w0 : World} {Ow : List Nat} {b r d m N : Nat} {p : Pg} {x : Hst} : Firm (StX t0 w0 Ow b r d m N p x) := by
 rintro w w' ⟨f, tv, ns, dg, h1, h2⟩ hb
 exact ⟨f, tv, ns, dg, h1, Mem.firm _ _ h2 hb⟩
theorem StX.up {t0 : ByteArray} {w0 ww : World} {Ow : List Nat} {b r d m N : Nat} {p : Pg} {x : Hst} (h : StX t0 w0 Ow b r d m N p x ww) : Upd (b :: r :: d :: m :: Ow) w0 ww := by
 obtain ⟨_, _, _, _, _, h2⟩ := h
 exact h2.up
def StU (t0 : ByteArray) (w0 : World) (Ow : List Nat) (b r d m N : Nat) (x : Hst) (ww : World) : Prop := ∃ p, StX t0 w0 Ow b r d m N p x ww ∧ p.mode = 0 ∧ p.none' = p
theorem StU.firm {t0 : ByteArray} {w0 : World} {Ow : List Nat} {b r d m N : Nat} {x : Hst} : Firm (StU t0 w0 Ow b r d m N x) := by
 rintro w w' ⟨p, h, h1, h2⟩ hb
 exact ⟨p, StX.firm _ _ h hb, h1, h2⟩
theorem StU.up {t0 : ByteArray} {w0 ww : World} {Ow : List Nat} {b r d m N : Nat} {x : Hst} (h : StU t0 w0 Ow b r d m N x ww) : Upd (b :: r :: d :: m :: Ow) w0 ww := by
 obtain ⟨_, h, _⟩ := h
 exact h.up
theorem StU.org {t0 : ByteArray} {w0 ww : World} {Ow : List Nat} {b r d m N : Nat} {x : Hst} (h : StU t0 w0 Ow b r d m N x ww) : orgT x.1 x.2.1 = t0 := by
 obtain ⟨p, ⟨_, _, _, _, inv, _⟩, _⟩ := h
 exact inv.o
theorem cnt_none {p : Pg} (h : p.none' = p) : cnt p = 0 := by
 rw [← h]
 rfl
theorem uPress {t0 : ByteArray} {w0 : World} {Ow : List Nat} {b r d m : Nat} (X : Fix w0 Ow b r d m) {N : Nat} (c : UInt8) (hc : (c.toNat : Int) = 117) (hN : N ≤ 90000) (x : Hst) : ∀ ww, StU t0 w0 Ow b r d m N x ww →
  Calls Tryz.prog 38 #[.pointer (some ⟨b, 0, none⟩), .int .u8 c.toNat] ww fun e w' => e = .returned (.int .i64 (if x.2.1.length = 0 then 4 else 1)) ∧ StU t0 w0 Ow b r d m (N + 1) (wlkN (min 1 x.2.1.length) x) w' := by
 rintro ww ⟨p, ⟨f, tv, ns, dg, inv, M⟩, hm, hn⟩
 have hm1 : ¬ p.mode = 1 := by rw [hm]; decide
 have hv : p.verb = 0 := by rw [← hn]
 have hp : p.part = 0 := by rw [← hn]
 have hl := inv.n
 have hct := cnt_none hn
 refine Calls.mono (sEnd (fun O q _ y => O = (if x.2.1.length = 0 then 4 else 1) ∧ y = wlkN (min 1 x.2.1.length) x ∧ q.t = q.now ∧ q.mode = 0) X c inv hN (ns ++ [c]) qs (fun w2 M2 => by rw [hm]; exact kpN X c qo w2 M2) (fun w2 M2 => ?_) ww M) ?_
 ·have T := tkU X p f tv ns dg x N inv.g hm hv hp (inv.t hm1) inv.h qo w2 M2
  rw [← hc, hct] at T
  refine Calls.mono T ?_
  rintro e w' ⟨rfl, p2, _, h1, h2, h3, h4, h5, h6⟩
  refine ⟨(if x.2.1.length = 0 then 4 else 1, p2, f, wlkN (min 1 x.2.1.length) x), rfl, ⟨?_, h1, inv.f, h2, by rw [h3]; decide, h5, ?_, fun _ => h3, (orgT_wlkN x _).trans inv.o⟩, h6, rfl, rfl, h4, h3⟩
  ·show (if x.2.1.length = 0 then (4 : Int) else 1) = 1 ∨ (if x.2.1.length = 0 then (4 : Int) else 1) = 2 ∨ (if x.2.1.length = 0 then (4 : Int) else 1) = 4
   split <;> simp
  ·intro e
   have e2 : (if x.2.1.length = 0 then (4 : Int) else 1) = 2 := e
   split at e2 <;> simp at e2
 ·rintro e w' ⟨O, q, f2, y, bk, fo, rfl, h1, ⟨rfl, rfl, h2, h3⟩, h6, _⟩
  have hk : kpx q (wlkN (min 1 x.2.1.length) x) = wlkN (min 1 x.2.1.length) x := if_pos h2
  rw [hk] at h1
  exact ⟨rfl, _, ⟨f2, h1⟩, h3, nn_with h6⟩
theorem rPress {t0 : ByteArray} {w0 : World} {Ow : List Nat} {b r d m : Nat} (X : Fix w0 Ow b r d m) {N : Nat} (c : UInt8) (hc : (c.toNat : Int) = 18) (hN : N ≤ 90000) (x : Hst) : ∀ ww, StU t0 w0 Ow b r d m N x ww →
  Calls Tryz.prog 38 #[.pointer (some ⟨b, 0, none⟩), .int .u8 c.toNat] ww fun e w' => e = .returned (.int .i64 (if (swp x).2.1.length = 0 then 4 else 1)) ∧ StU t0 w0 Ow b r d m (N + 1) (swp (wlkN (min 1 (swp x).2.1.length) (swp x))) w' := by
 rintro ww ⟨p, ⟨f, tv, ns, dg, inv, M⟩, hm, hn⟩
 have hm1 : ¬ p.mode = 1 := by rw [hm]; decide
 have hv : p.verb = 0 := by rw [← hn]
 have hp : p.part = 0 := by rw [← hn]
 have hl := inv.n
 have hct := cnt_none hn
 generalize hz : swp x = z
 have hx : x = swp z := by rw [← hz, swp_swp]
 refine Calls.mono (sEnd (fun O q _ y => O = (if z.2.1.length = 0 then 4 else 1) ∧ y = swp (wlkN (min 1 z.2.1.length) z) ∧ q.t = q.now ∧ q.mode = 0) X c inv hN (ns ++ [c]) qs (fun w2 M2 => by rw [hm]; exact kpN X c qo w2 M2) (fun w2 M2 => ?_) ww M) ?_
 ·have T := tkRe X p f tv ns dg z N inv.g hm hv hp (inv.t hm1) (by rw [← hx]; exact inv.h) qo w2 (by rw [← hx]; exact M2)
  rw [← hc, hct] at T
  refine Calls.mono T ?_
  rintro e w' ⟨rfl, p2, _, h1, h2, h3, h4, h5, h6⟩
  have ho : orgT (swp (wlkN (min 1 z.2.1.length) z)).1 (swp (wlkN (min 1 z.2.1.length) z)).2.1 = t0 := by
   refine (orgT_swpN z _).trans ?_
   have := inv.o
   rw [hx] at this
   exact this
  refine ⟨(if z.2.1.length = 0 then 4 else 1, p2, f, swp (wlkN (min 1 z.2.1.length) z)), rfl, ⟨?_, h1, inv.f, h2, by rw [h3]; decide, h5, ?_, fun _ => h3, ho⟩, h6, rfl, rfl, h4, h3⟩
  ·show (if z.2.1.length = 0 then (4 : Int) else 1) = 1 ∨ (if z.2.1.length = 0 then (4 : Int) else 1) = 2 ∨ (if z.2.1.length = 0 then (4 : Int) else 1) = 4
   split <;> simp
  ·intro e
   have e2 : (if z.2.1.length = 0 then (4 : Int) else 1) = 2 := e
   split at e2 <;> simp at e2
 ·rintro e w' ⟨O, q, f2, y, bk, fo, rfl, h1, ⟨rfl, rfl, h2, h3⟩, h6, _⟩
  have hk : kpx q (swp (wlkN (min 1 z.2.1.length) z)) = swp (wlkN (min 1 z.2.1.length) z) := if_pos h2
  rw [hk] at h1
  exact ⟨rfl, _, ⟨f2, h1⟩, h3, nn_with h6⟩
theorem bType_cnt (b : Nat) (s : ByteArray) (I : Nat → Nat → World → Prop) (w : World) (h : I 0 0 w) (hs : s.size ≤ 17592186044416)
  (HK : ∀ k n, (hk : k < s.size) → ∀ ww, I k n ww → Calls Tryz.prog 38 #[.pointer (some ⟨b, 0, none⟩), .int .u8 (s[k]'hk).toNat] ww fun e w' => ∃ O : Int, e = .returned (.int .i64 O) ∧ (O = 4 → I (k + 1) (n + 1) w') ∧ (¬ O = 4 → I (k + 1) n w')) :
  Calls Tryz.prog 30 #[.pointer (some ⟨b, 0, none⟩), .string s] w fun e w' => ∃ n : Nat, e = .returned (.int .i64 n) ∧ I s.size n w' := by
 have HK' : Hid (∀ k n, (hk : k < s.size) → ∀ ww, I k n ww → Calls Tryz.prog 38 #[.pointer (some ⟨b, 0, none⟩), .int .u8 (s[k]'hk).toNat] ww fun e w' => ∃ O : Int, e = .returned (.int .i64 O) ∧ (O = 4 → I (k + 1) (n + 1) w') ∧ (¬ O = 4 → I (k + 1) n w')) := HK
 clear HK
 go_enter func30, ntmps30
 go_wp2
 go_loopw [5, 9] (fun m i wr => ∃ k n : Nat, k ≤ s.size ∧ i = .int .i64 k ∧ m = .int .i64 n ∧ n ≤ k ∧ I k n wr) (fun _ i _ => s.size - (intOf i).toNat)
 case atStart => exact ⟨0, 0, Nat.zero_le _, rfl, rfl, Nat.le_refl _, h⟩
 case round =>
  obtain ⟨k, n, hk, rfl, rfl, hnk, h1⟩ := hrel
  by_cases hlt : k < s.size
  ·have HC := HK'.out k n hlt _ h1
   go_wp2_with fail
   refine Calls.mono HC ?_
   rintro e w1 ⟨O, rfl, h2, h3⟩
   clear h1 HC
   by_cases hO : O = 4
   ·have hO' : (O == 4) = true := by simp [hO]
    have h4 := h2 hO
    clear hO h2 h3
    go_wp2
    go_roundw
    case rel => exact ⟨k + 1, n + 1, by omega, by go_num, by go_num, by omega, h4⟩
    case measure => simp [intOf] <;> omega
   ·have hO' : (O == 4) = false := by simp [hO]
    have h4 := h3 hO
    clear hO h2 h3
    go_wp2
    go_roundw
    case rel => exact ⟨k + 1, n, by omega, by go_num, rfl, by omega, h4⟩
    case measure => simp [intOf] <;> omega
  ·have hkn : k = s.size := by omega
   subst hkn
   go_wp2
   go_ret
   exact ⟨n, rfl, h1⟩
theorem oneType (q b : Nat) (c : UInt8) (w : World) (O : Int) (Q : World → Prop) (hq : w.cell? ⟨q, 0, none⟩ = some (.pointer (some ⟨b, 0, none⟩)))
  (HP : Calls Tryz.prog 38 #[.pointer (some ⟨b, 0, none⟩), .int .u8 c.toNat] w fun e w' => e = .returned (.int .i64 O) ∧ Q w') :
  Calls Tryz.prog 17 #[.pointer (some ⟨q, 0, none⟩), .string ⟨#[c]⟩] w fun e w' => e = .returned (.int .i64 (if O = 4 then 1 else 0)) ∧ Q w' := by
 refine Calls.mono (nTypeY q b ⟨#[c]⟩ w (fun n w' => n = (if O = 4 then 1 else 0) ∧ Q w') hq ?_) ?_
 ·rintro v rfl
  refine Calls.mono (bType_cnt b ⟨#[c]⟩ (fun k n ww => (k = 0 → ww = v ∧ n = 0) ∧ (k = 1 → n = (if O = 4 then 1 else 0) ∧ Q ww)) v ⟨fun _ => ⟨rfl, rfl⟩, fun h => absurd h qd⟩ (show 1 ≤ 17592186044416 by decide) ?_) ?_
  ·intro k n hk ww hI
   have hk0 : k = 0 := by
    have : (⟨#[c]⟩ : ByteArray).size = 1 := rfl
    omega
   subst hk0
   obtain ⟨rfl, rfl⟩ := hI.1 rfl
   refine Calls.mono HP ?_
   rintro e w' ⟨rfl, h1⟩
   exact ⟨O, rfl, fun h => ⟨fun h0 => absurd h0 qd, fun _ => ⟨by rw [if_pos h], h1⟩⟩, fun h => ⟨fun h0 => absurd h0 qd, fun _ => ⟨by rw [if_neg h], h1⟩⟩⟩
  ·rintro e w' ⟨n, rfl, _, h⟩
   exact ⟨n, rfl, h rfl⟩
 ·rintro e w' ⟨n, rfl, rfl, h⟩
  refine ⟨?_, h⟩
  split <;> rfl
theorem sTypes (HA : AnyOk) {t0 : ByteArray} {w0 : World} {Ow : List Nat} {b r d m : Nat} (X : Fix w0 Ow b r d m) (q N : Nat) (s : ByteArray) (hN : N + s.size ≤ 80000) (ww : World) (hq : ww.cell? ⟨q, 0, none⟩ = some (.pointer (some ⟨b, 0, none⟩))) (h : StS t0 w0 Ow b r d m N ww) :
  Calls Tryz.prog 17 #[.pointer (some ⟨q, 0, none⟩), .string s] ww fun e w' => ∃ n : Nat, e = .returned (.int .i64 n) ∧ StS t0 w0 Ow b r d m (N + s.size) w' := by
 refine nTypeY q b s ww (fun _ w' => StS t0 w0 Ow b r d m (N + s.size) w') hq ?_
 rintro v rfl
 refine Calls.mono (bType_inv b s (fun k ww' => StS t0 w0 Ow b r d m (N + k) ww') v h qo ?_) ?_
 ·intro k hk w1 hI
  refine Calls.mono (sPress HA X (s[k]'hk) qo w1 hI) ?_
  rintro e w' ⟨O, rfl, h1, _⟩
  exact ⟨O, rfl, h1⟩
 ·rintro e w' ⟨n, rfl, hn, h2⟩
  exact ⟨n, rfl, h2⟩
theorem sTypeZ (HA : AnyOk) {t0 : ByteArray} {w0 : World} {Ow : List Nat} {b r d m : Nat} (X : Fix w0 Ow b r d m) (q N : Nat) (hN : N ≤ 80000) (s : ByteArray) (hs : s.size = 2) (hc : ∀ k (hk : k < s.size), ((s[k]'hk).toNat : Int) = 27) (ww : World) (hq : ww.cell? ⟨q, 0, none⟩ = some (.pointer (some ⟨b, 0, none⟩))) (h : StS t0 w0 Ow b r d m N ww) :
  Calls Tryz.prog 17 #[.pointer (some ⟨q, 0, none⟩), .string s] ww fun e w' => ∃ n : Nat, e = .returned (.int .i64 n) ∧ ∃ x, StU t0 w0 Ow b r d m (N + 2) x w' ∧ x.2.1.length + x.2.2.length ≤ N := by
 refine nTypeY q b s ww (fun _ w' => ∃ x, StU t0 w0 Ow b r d m (N + 2) x w' ∧ x.2.1.length + x.2.2.length ≤ N) hq ?_
 rintro v rfl
 refine Calls.mono (bType_inv b s (fun k ww' => (k = 0 → StS t0 w0 Ow b r d m N ww') ∧ (0 < k → ∃ x, StU t0 w0 Ow b r d m (N + k) x ww' ∧ x.2.1.length + x.2.2.length ≤ N)) v ⟨fun _ => h, fun h => absurd h (Nat.lt_irrefl 0)⟩ qo ?_) ?_
 ·intro k hk w1 hI
  by_cases hk0 : k = 0
  ·obtain ⟨p, f, tv, ns, dg, x, inv, M⟩ := hI.1 hk0
   refine Calls.mono (sPressX HA X (s[k]'hk) qo p x w1 ⟨f, tv, ns, dg, inv, M⟩) ?_
   rintro e w' ⟨O, p2, x2, rfl, h1, h2⟩
   obtain ⟨a1, a2, a3, a4⟩ := h2 (hc k hk)
   refine ⟨O, rfl, fun h => absurd h qo, fun _ => ⟨x2, ⟨p2, by rw [hk0]; exact h1, a1, a2⟩, ?_⟩⟩
   by_cases hm : p.mode = 1
   ·have := a3 hm; have := inv.q hm; omega
   ·rw [(a4 hm).1]; exact inv.h.n
  ·obtain ⟨x, ⟨p, S, hm, hn⟩, hl⟩ := hI.2 qo
   refine Calls.mono (sPressX HA X (s[k]'hk) qo p x w1 S) ?_
   rintro e w' ⟨O, p2, x2, rfl, h1, h2⟩
   obtain ⟨a1, a2, a3, a4⟩ := h2 (hc k hk)
   refine ⟨O, rfl, fun h => absurd h qo, fun _ => ⟨x2, ⟨p2, by rw [← Nat.add_assoc]; exact h1, a1, a2⟩, ?_⟩⟩
   rw [(a4 (by rw [hm]; decide)).1]
   exact hl
 ·rintro e w' ⟨n, rfl, hn, _, h2⟩
  have := h2 qo
  rw [hs] at this
  exact ⟨n, rfl, this⟩
theorem StU.state {t0 : ByteArray} {w0 ww : World} {Ow : List Nat} {b r d m N q : Nat} {x : Hst} (h : StU t0 w0 Ow b r d m N x ww) (hq : ww.cell? ⟨q, 0, none⟩ = some (.pointer (some ⟨b, 0, none⟩))) :
  Calls Tryz.prog 18 #[.pointer (some ⟨q, 0, none⟩)] ww fun e w' => ∃ a1 a2 a3 : Int, ∃ l : Bool, e = .returned (.agg #[.string x.1, .int .i64 a1, .int .i64 a2, .int .i64 a3, .bool l]) ∧ Below ww.heap.size ww w' := by
 obtain ⟨p, ⟨f, tv, ns, dg, inv, M⟩, hm, hn⟩ := h
 have e : p.t = x.1 := (inv.t (by rw [hm]; decide)).trans inv.h.now
 have := nState q b r d tv dg p ww hq M.bd M.rd
 rw [e] at this
 refine Calls.mono this ?_
 rintro e w' ⟨rfl, hb⟩
 exact ⟨_, _, _, _, rfl, hb⟩
theorem uType {t0 : ByteArray} {w0 : World} {Ow : List Nat} {b r d m : Nat} (X : Fix w0 Ow b r d m) (q N : Nat) (hN : N ≤ 80000) (x : Hst) (ww : World) (hq : ww.cell? ⟨q, 0, none⟩ = some (.pointer (some ⟨b, 0, none⟩))) (h : StU t0 w0 Ow b r d m N x ww) :
  Calls Tryz.prog 17 #[.pointer (some ⟨q, 0, none⟩), .string ⟨#[117]⟩] ww fun e w' => e = .returned (.int .i64 (if x.2.1.length = 0 then 1 else 0)) ∧ StU t0 w0 Ow b r d m (N + 1) (wlkN (min 1 x.2.1.length) x) w' := by
 refine Calls.mono (oneType q b 117 ww _ _ hq (uPress X 117 rfl qo x ww h)) ?_
 rintro e w' ⟨rfl, h1⟩
 refine ⟨?_, h1⟩
 by_cases h0 : x.2.1.length = 0
 ·simp [h0]
 ·simp [h0]
theorem rType {t0 : ByteArray} {w0 : World} {Ow : List Nat} {b r d m : Nat} (X : Fix w0 Ow b r d m) (q N : Nat) (hN : N ≤ 80000) (x : Hst) (ww : World) (hq : ww.cell? ⟨q, 0, none⟩ = some (.pointer (some ⟨b, 0, none⟩))) (h : StU t0 w0 Ow b r d m N x ww) (h0 : ¬ x.2.2.length = 0) :
  Calls Tryz.prog 17 #[.pointer (some ⟨q, 0, none⟩), .string ⟨#[18]⟩] ww fun e w' => e = .returned (.int .i64 0) ∧ StU t0 w0 Ow b r d m (N + 1) (swp (wlk1 (swp x))) w' := by
 refine Calls.mono (oneType q b 18 ww _ _ hq (rPress X 18 rfl qo x ww h)) ?_
 have hl : (swp x).2.1.length = x.2.2.length := by simp [swp]
 have hm : min 1 (swp x).2.1.length = 1 := by omega
 rintro e w' ⟨rfl, h1⟩
 rw [hm] at h1
 refine ⟨?_, h1⟩
 simp [hl, h0]
def Lu (last : ByteArray) (k : Nat) (y : Hst) : Prop := (y.2.1.length + k ≤ 300 ∨ y.2.1.length = 0) ∧ ∃ j, pathT j y.1 y.2.2.reverse = last ∧ j + y.2.1.length ≤ 300
theorem Lu.step {last : ByteArray} {k : Nat} {y : Hst} (h : Lu last k y) : Lu last (k + 1) (wlkN (min 1 y.2.1.length) y) := by
 obtain ⟨h1, j, h2, h3⟩ := h
 by_cases h0 : y.2.1.length = 0
 ·rw [h0, Nat.min_zero]
  exact ⟨Or.inr h0, j, h2, h3⟩
 ·have hm : min 1 y.2.1.length = 1 := by omega
  have hl := (wlkN_len y 1 qo).1
  rw [hm]
  refine ⟨Or.inl qo, j + 1, ?_, by omega⟩
  exact (pathT_wlk1 y j qo).trans h2
theorem path_redo (y : Hst) (j : Nat) (h : ¬ y.2.2.length = 0) : pathT (j + 1) y.1 y.2.2.reverse = pathT j (swp (wlk1 (swp y))).1 (swp (wlk1 (swp y))).2.2.reverse := by
 rcases y with ⟨t, R, F⟩
 have : ∃ s G, F.reverse = s :: G := by
  cases hF : F.reverse with
  | nil => simp at hF; subst hF; simp at h
  | cons s G => exact ⟨s, G, rfl⟩
 obtain ⟨s, G, hF⟩ := this
 show pathT (j + 1) t F.reverse = _
 have e : swp (wlk1 (swp (t, R, F))) = (app t s, (R.reverse ++ [mkS (app t s) t]).reverse, G.reverse) := by
  unfold swp
  simp only [hF, wlk1]
 rw [e, hF]
 show pathT j (app t s) G = pathT j (app t s) G.reverse.reverse
 rw [List.reverse_reverse]
theorem path_none {t last : ByteArray} {R : List Stp} {j : Nat} (h : pathT j t R.reverse = last) (hn : ¬ t = last) : ∃ i, j = i + 1 ∧ ¬ R.length = 0 := by
 cases j with
 | zero => exact absurd h hn
 | succ i =>
  refine ⟨i, rfl, fun h0 => ?_⟩
  have : R = [] := List.eq_nil_of_length_eq_zero h0
  subst this
  exact hn h
theorem list_ne {a b : ByteArray} (h : ¬ a = b) : (a.toList == b.toList) = false := by
 rw [beq_eq_false_iff_ne]
 intro hx
 apply h
 rw [ByteArray.toList_eq, ByteArray.toList_eq] at hx
 exact ByteArray.ext (Array.ext' hx)
theorem kUndone (HA : AnyOk) (text keys : ByteArray) (w : World) :
  qC 7 #[.string text, .string keys] w (.bool true) := by
 have HK : qH 14 #[] (.bool true) := fun ww => kKnown ww
 have HO : Hid (∀ ww, Calls Tryz.prog 15 #[.string text] ww fun e w' => ∃ q b r d m : Nat, e = .returned (.pointer (some ⟨q, 0, none⟩)) ∧ New7 ww w' q b r d m (cut3 text) ∧ Below ww.heap.size ww w') := fun ww => kOpened text ww
 have HU1 : qH 16 #[.string text, .int .i64 300] (.string (cut3 text)) := fun ww => kUpTo text ww
 have HU2 : qH 16 #[.string keys, .int .i64 300] (.string (cut3 keys)) := fun ww => kUpTo keys ww
 have ht := cut3_size text
 have hk := cut3_size keys
 generalize cut3 text = t at *
 generalize cut3 keys = ks at *
 go_enter func7, ntmps7
 go_wp2_with fail
 refine Calls.mono (HK.out _) ?_
 rintro e w1 ⟨rfl, g1⟩
 have z1 := g1.size
 go_wp2_with fail
 refine Calls.mono (HO.out _) ?_
 rintro e w2 ⟨q, b, r, d, m, rfl, N2, g2⟩
 have z2 := g2.size
 go_wp2_with fail
 refine Calls.mono (HU2.out _) ?_
 rintro e w3 ⟨rfl, g3⟩
 have z3 := g3.size
 have N3 := N2.below g3
 have B3 : Below w.heap.size w w3 := by
  repeat exact qB
 obtain ⟨X, S3⟩ := N3.sts qo
 have NQ : ∀ k, k ∈ [q] → k ∉ [b, r, d, m] := by
  intro k hk
  simp at hk
  subst hk
  simp [N3.qb, N3.qr, N3.qd, N3.qm]
 have CQ : Hid (∀ ww, Upd [b, r, d, m] w3 ww → ww.cell? ⟨q, 0, none⟩ = some (.pointer (some ⟨b, 0, none⟩))) := fun ww hu => hu.was N3.cq (by simp [N3.qb, N3.qr, N3.qd, N3.qm])
 have BQ : Hid (∀ ww, Upd [b, r, d, m] w3 ww → Below w.heap.size w ww) := fun ww hu => B3.trans (below_of_upd hu qo (by
  intro x hx
  simp at hx
  have := N3.lb; have := N3.lr; have := N3.ld; have := N3.lm
  rcases hx with hx | hx | hx | hx <;> omega))
 have c3 := N3.cq
 clear HK HO HU2 g1 g2 g3 N2 N3 NQ B3 z1 z2 z3
 go_wp2_with fail
 refine Calls.mono (sTypes HA X q 0 ks qo _ c3 S3) ?_
 rintro e w4 ⟨n4, rfl, S4⟩
 have c4 := CQ.out _ S4.up
 clear S3 c3
 go_wp2_with fail
 refine Calls.mono (sTypeZ HA X q (0 + ks.size) qo ⟨#[27, 27]⟩ rfl two_esc _ c4 S4) ?_
 rintro e w5 ⟨n5, rfl, x, U5, hx⟩
 have c5 := CQ.out _ U5.up
 clear S4 c4
 go_wp2_with fail
 refine Calls.mono (U5.state c5) ?_
 rintro e w6 ⟨a6, b6, d6, l6, rfl, g6⟩
 have U6 := StU.firm _ _ U5 g6
 have L6 : Hid (Lu x.1 0 x) := ⟨Or.inl qo, 0, rfl, by omega⟩
 have hfd : ∀ ww : World, (Instr.field 32 (.agg #[.string x.1, .int .i64 a6, .int .i64 b6, .int .i64 d6, .bool l6]) 0).run Tryz.prog ww = .ok (.string x.1) ww := fun _ => by kernel_rfl
 have HU6 : Hid (StU t w3 [] b r d m (ks.size + 2) x w6) := by have := U6; rw [Nat.zero_add] at this; exact this
 clear U5 c5 g6 hx U6
 generalize hlast : x.1 = last at *
 go_wp2
 go_loopw [8] (fun a wr => ∃ (k : Nat) (y : Hst), k ≤ 300 ∧ a = .int .i64 k ∧ StU t w3 [] b r d m (ks.size + 2 + k) y wr ∧ Lu last k y) (fun a _ => 300 - (intOf a).toNat)
 case atStart => exact ⟨0, x, Nat.zero_le _, rfl, HU6.out, L6.out⟩
 case round =>
  clear hfd HU6 L6 hlast
  obtain ⟨k, y, hkk, rfl, U, L⟩ := hrel
  have cq := CQ.out _ U.up
  by_cases hlt : k < 300
  ·have i1 : ((k : Nat) : Int) < 300 := by omega
   go_wp2_with fail
   refine Calls.mono (uType X q _ qo y _ cq U) ?_
   rintro e w7 ⟨rfl, U7⟩
   have L7 := L.step
   have HU7 : Hid (∃ y, StU t w3 [] b r d m (ks.size + 2 + (k + 1)) y w7 ∧ Lu last (k + 1) y) := ⟨_, U7, L7⟩
   clear U L cq U7 L7
   go_wp2
   go_round
   case rel =>
    obtain ⟨y, h1, h2⟩ := HU7.out
    exact ⟨k + 1, y, by omega, by go_num, h1, h2⟩
   case measure => simp [intOf] <;> omega
  ·have hns : ¬ ((k : Nat) : Int) < 300 := by omega
   have hk3 : k = 300 := by omega
   have hl0 : y.2.1.length = 0 := by
    rcases L.1 with h | h <;> omega
   obtain ⟨_, j, hj, hj3⟩ := L
   have hj4 : j ≤ 300 := by omega
   clear hj3
   have hy : y.1 = t := by
    have := U.org
    rw [List.eq_nil_of_length_eq_zero hl0] at this
    exact this
   have hm : wlkN (min 1 y.2.1.length) y = y := by rw [hl0, Nat.min_zero]; rfl
   have HT1 : Hid (∀ ww, StU t w3 [] b r d m (ks.size + 2 + k) y ww → ww.cell? ⟨q, 0, none⟩ = some (.pointer (some ⟨b, 0, none⟩)) → Calls Tryz.prog 17 #[.pointer (some ⟨q, 0, none⟩), .string ⟨#[117]⟩] ww fun e w' => e = .returned (.int .i64 1) ∧ StU t w3 [] b r d m (ks.size + 2 + k + 1) y w') := by
    intro ww hU hc
    have := uType X q _ qo y ww hc hU
    rw [hm, if_pos hl0] at this
    exact this
   have HS1 : Hid (∀ ww N, StU t w3 [] b r d m N y ww → ww.cell? ⟨q, 0, none⟩ = some (.pointer (some ⟨b, 0, none⟩)) → Calls Tryz.prog 18 #[.pointer (some ⟨q, 0, none⟩)] ww fun e w' => ∃ a1 a2 a3 : Int, ∃ l : Bool, e = .returned (.agg #[.string t, .int .i64 a1, .int .i64 a2, .int .i64 a3, .bool l]) ∧ Below ww.heap.size ww w') := by
    intro ww N hU hc
    have := hU.state hc
    rw [hy] at this
    exact this
   have HF : Hid (∀ (a1 a2 a3 : Int) (l : Bool) (ww : World), (Instr.field 32 (.agg #[.string t, .int .i64 a1, .int .i64 a2, .int .i64 a3, .bool l]) 0).run Tryz.prog ww = .ok (.string t) ww) := fun _ _ _ _ _ => by kernel_rfl
   clear hm
   go_wp2_with fail
   refine Calls.mono (HS1.out _ _ U cq) ?_
   rintro e w7 ⟨a7, b7, d7, l7, rfl, g7⟩
   have U7 := StU.firm _ _ U g7
   have hf7 := HF.out a7 b7 d7 l7
   go_wp2_with fail
   refine Calls.mono (HU1.out _) ?_
   rintro e w8 ⟨rfl, g8⟩
   have U8 := StU.firm _ _ U7 g8
   have c8 := CQ.out _ U8.up
   clear g7 g8 U7 U
   go_wp2_with fail
   refine Calls.mono (HT1.out _ U8 c8) ?_
   rintro e w9 ⟨rfl, U9⟩
   have c9 := CQ.out _ U9.up
   clear U8 c8 hf7
   go_wp2_with fail
   refine Calls.mono (HS1.out _ _ U9 c9) ?_
   rintro e w10 ⟨a10, b10, d10, l10, rfl, g10⟩
   have U10 := StU.firm _ _ U9 g10
   have hf10 := HF.out a10 b10 d10 l10
   clear g10 U9 c9 HT1 HS1 HF
   have HB0 : ∃ B0 : Bool, (t.toList == last.toList) = B0 ∧ (B0 = true ∨ ¬ t = last) := by
    by_cases h : t = last
    ·exact ⟨true, by rw [h]; simp, Or.inl rfl⟩
    ·exact ⟨false, list_ne h, Or.inr h⟩
   obtain ⟨B0, hB0, hB1⟩ := HB0
   have HU10 : Hid (StU t w3 [] b r d m (ks.size + 2 + 300 + 1) y w10) := by rw [hk3] at U10; exact U10
   have HJ : Hid (B0 = true ∨ (pathT j y.1 y.2.2.reverse = last ∧ ¬ y.1 = last ∧ j + 0 ≤ 300)) := hB1.imp id (fun h => ⟨hj, by rw [hy]; exact h, by omega⟩)
   clear hB1 hj hy hl0 U10 hk3 hkk
   go_wp2
   go_loopw [9, 10] (fun fo a wr => ∃ (k j : Nat) (y : Hst) (B : Bool), k ≤ 300 ∧ fo = .bool B ∧ a = .int .i64 k ∧ StU t w3 [] b r d m (ks.size + 2 + 300 + 1 + k) y wr ∧ (B = true ∨ (pathT j y.1 y.2.2.reverse = last ∧ ¬ y.1 = last ∧ j + k ≤ 300))) (fun _ a _ => 300 - (intOf a).toNat)
   case atStart => exact ⟨0, j, y, B0, Nat.zero_le _, rfl, rfl, HU10.out, HJ.out⟩
   case round =>
    clear HU10 HJ hB0 hf10 hlt hns hj4
    obtain ⟨k2, j2, z, B, hk2, rfl, rfl, U, hB⟩ := hrel
    have cq := CQ.out _ U.up
    have Bw := BQ.out _ U.up
    cases B with
    | true =>
     by_cases hlt : k2 < 300
     ·have i1 : ((k2 : Nat) : Int) < 300 := by omega
      go_wp2
      go_ret
      exact ⟨rfl, Bw⟩
     ·have i1 : ¬ ((k2 : Nat) : Int) < 300 := by omega
      go_wp2
      go_ret
      exact ⟨rfl, Bw⟩
    | false =>
     obtain ⟨p1, p2, p3⟩ := hB.resolve_left qd
     obtain ⟨i, rfl, hne⟩ := path_none p1 p2
     have i1 : ((k2 : Nat) : Int) < 300 := by omega
     have p4 := (path_redo z i hne).symm.trans p1
     go_wp2_with fail
     refine Calls.mono (rType X q _ qo z _ cq U hne) ?_
     rintro e w11 ⟨rfl, U11⟩
     have c11 := CQ.out _ U11.up
     generalize swp (wlk1 (swp z)) = y2 at *
     clear U cq Bw p1 p2 hne hB
     go_wp2_with fail
     refine Calls.mono (U11.state c11) ?_
     rintro e w12 ⟨a12, b12, d12, l12, rfl, g12⟩
     have U12 := StU.firm _ _ U11 g12
     have hfd : ∀ ww : World, (Instr.field 32 (.agg #[.string y2.1, .int .i64 a12, .int .i64 b12, .int .i64 d12, .bool l12]) 0).run Tryz.prog ww = .ok (.string y2.1) ww := fun _ => by kernel_rfl
     have HB0 : ∃ B0 : Bool, (y2.1.toList == last.toList) = B0 ∧ (B0 = true ∨ ¬ y2.1 = last) := by
      by_cases h : y2.1 = last
      ·exact ⟨true, by rw [h]; simp, Or.inl rfl⟩
      ·exact ⟨false, list_ne h, Or.inr h⟩
     obtain ⟨B0, hB0, hB1⟩ := HB0
     have HU12 : Hid (∃ (j : Nat) (y : Hst), StU t w3 [] b r d m (ks.size + 2 + 300 + 1 + (k2 + 1)) y w12 ∧ (B0 = true ∨ (pathT j y.1 y.2.2.reverse = last ∧ ¬ y.1 = last ∧ j + (k2 + 1) ≤ 300))) := ⟨i, y2, U12, hB1.imp id (fun h => ⟨p4, h, by omega⟩)⟩
     have hk5 : k2 + 1 ≤ 300 := by omega
     clear U11 c11 g12 U12 hB1 p4 p3
     go_wp2
     go_round
     case rel =>
      obtain ⟨j, y, h1, h2⟩ := HU12.out
      exact ⟨k2 + 1, j, y, B0, hk5, rfl, by go_num, h1, h2⟩
     case measure => simp [intOf] <;> omega
