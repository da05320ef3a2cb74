/- A part. -/
import Derived.Test.YtlendfhehhacpaaGreatP51
set_option linter.unusedVariables false
set_option linter.unusedSimpArgs false
set_option maxRecDepth 100000
set_option maxHeartbeats 8000000
namespace Go.Proofs.YtlendfhehhacpaaGreat
open Go.RowKit Nib Tryz
structure Sg where
 p : Pg
 f : Int → Value
 ns : List UInt8
 dg : ByteArray
 x : Hst
def MemS (w0 : World) (Ow : List Nat) (b r d m : Nat) (s : Sg) (ww : World) : Prop := ∃ (a : Ptr) (tv : Value), a.1 = .map (some m) ∧ Mem w0 Ow b r d m (s.p.w a) s.f tv s.ns s.dg s.x ww
theorem MemS.firm {w0 : World} {Ow : List Nat} {b r d m : Nat} {s : Sg} : Firm (MemS w0 Ow b r d m s) := by
 rintro w w' ⟨a, tv, ha, M⟩ hb
 exact ⟨a, tv, ha, Mem.firm _ _ M hb⟩
theorem MemS.up {w0 ww : World} {Ow : List Nat} {b r d m : Nat} {s : Sg} (h : MemS w0 Ow b r d m s ww) : Upd (b :: r :: d :: m :: Ow) w0 ww := by
 obtain ⟨a, tv, ha, M⟩ := h
 exact M.up
structure InvP (N : Nat) (s : Sg) : Prop where
 g : GoodP s.p
 b : GoodB s.p
 f : GoodF s.f
 h : HOk s.p s.x N
 n : s.ns.length ≤ N
 t : ¬ s.p.mode = 1 → s.p.t = s.p.now
 y : TyOk s.p s.ns
 d : DoOk s.dg
 z : s.dg.size ≤ N
def PrC (s : Sg) (c : UInt8) (O : Int) (s2 : Sg) : Prop :=
 ∀ (w0 : World) (Ow : List Nat) (b r d m : Nat), Fix w0 Ow b r d m → ∀ ww, MemS w0 Ow b r d m s ww → Calls Tryz.prog 38 #[.pointer (some ⟨b, 0, none⟩), .int .u8 c.toNat] ww fun e w' => e = .returned (.int .i64 O) ∧ MemS w0 Ow b r d m s2 w'
def KpC (ns : List UInt8) (c : UInt8) (mode : Int) (ns2 : List UInt8) : Prop :=
 ∀ (w0 : World) (Ow : List Nat) (b r d m : Nat), Fix w0 Ow b r d m → ∀ (p : Pg) (f : Int → Value) (tv : Value) (dg : ByteArray) (x : Hst) ww, Mem w0 Ow b r d m p f tv ns dg x ww → Calls Tryz.prog 47 #[.pointer (some ⟨b, 1, none⟩), .int .u8 c.toNat, .int .i64 mode] ww fun e w' => e = .returned (.tuple #[]) ∧ ∃ tv', Mem w0 Ow b r d m p f tv' ns2 dg x w'
theorem eGo {p p2 : Pg} {f f2 : Int → Value} {ns ns2 : List UInt8} {dg : ByteArray} {x : Hst} {c : UInt8} {O : Int} (T : TkC p f c.toNat O p2 f2) (K : KpC ns c p.mode ns2) (hO : O = 0 ∨ (¬ O = 0 ∧ p2.mode = 1)) : PrC ⟨p, f, ns, dg, x⟩ c O ⟨p2, f2, ns2, dg, x⟩ := by
 rintro w0 Ow b r d m X ww ⟨a, tv, ha, M⟩
 have M : Mem w0 Ow b r d m (p.w a) f tv ns dg x ww := M
 rcases hO with hO | ⟨hO, hm⟩
 ·subst hO
  refine Calls.mono (press_go b r d (p.w a) c.toNat (Mem w0 Ow b r d m (p.w a) f tv ns dg x) (Mem w0 Ow b r d m (p2.w a) f2 tv ns dg x) (fun w' => ∃ tv', Mem w0 Ow b r d m (p2.w a) f2 tv' ns2 dg x w') ww M (fun _ h => ⟨⟨_, _, h.bd⟩, h.rd⟩) (fun _ h => ⟨_, _, h.bd⟩) (fun w2 M2 => T w0 Ow b r d m a tv ns dg x X ha w2 M2) (fun w2 M2 => K w0 Ow b r d m X _ _ _ _ _ w2 M2)) ?_
  rintro e w' ⟨rfl, tv', h⟩
  exact ⟨rfl, a, tv', ha, h⟩
 ·refine Calls.mono (press_ins b r d (p.w a) (p2.w a) c.toNat O (Mem w0 Ow b r d m (p.w a) f tv ns dg x) (Mem w0 Ow b r d m (p2.w a) f2 tv ns dg x) (fun w' => ∃ tv', Mem w0 Ow b r d m (p2.w a) f2 tv' ns2 dg x w') ww M (fun _ h => ⟨⟨_, _, h.bd⟩, h.rd⟩) (fun _ h => ⟨_, _, h.bd⟩) (fun _ h => by obtain ⟨tv', h⟩ := h; exact ⟨⟨_, _, h.bd⟩, h.rd⟩) hO hm (fun w2 M2 => T w0 Ow b r d m a tv ns dg x X ha w2 M2) (fun w2 M2 => K w0 Ow b r d m X _ _ _ _ _ w2 M2)) ?_
  rintro e w' ⟨rfl, tv', h⟩
  exact ⟨rfl, a, tv', ha, h⟩
def dgE (O : Int) (ns2 : List UInt8) (dg : ByteArray) : ByteArray := if O = 2 ∧ 0 < ns2.length then ⟨ns2.toArray⟩ else dg
theorem eEnd {p q : Pg} {f f2 : Int → Value} {ns ns2 : List UInt8} {dg : ByteArray} {x y : Hst} {c : UInt8} {O : Int} {N : Nat} (T : TkD p f dg x c.toNat O q f2 y) (K : KpC ns c p.mode ns2) (hO : ¬ O = 0) (hm : ¬ q.mode = 1) (hg : GoodP q) (ho : HOk q y N) (hN : N ≤ 100000) : PrC ⟨p, f, ns, dg, x⟩ c O ⟨{ q with now := q.t }, f2, [], dgE O ns2 dg, kpx q y⟩ := by
 rintro w0 Ow b r d m X ww ⟨a, tv, ha, M⟩
 have M : Mem w0 Ow b r d m (p.w a) f tv ns dg x ww := M
 refine Calls.mono (press_endS (σ := Unit) b r d (p.w a) c.toNat (fun _ => O) (fun _ => q.t) (Mem w0 Ow b r d m (p.w a) f tv ns dg x)
  (fun _ w2 => ∃ a2 : Ptr, a2.1 = .map (some m) ∧ Mem w0 Ow b r d m (q.w a2) f2 tv ns dg y w2)
  (fun _ w2 => ∃ a2 : Ptr, a2.1 = .map (some m) ∧ ∃ tv', Mem w0 Ow b r d m (q.w a2) f2 tv' ns2 dg y w2)
  (fun _ w2 => ∃ a2 : Ptr, a2.1 = .map (some m) ∧ Mem w0 Ow b r d m (q.w a2) f2 (.slice none 0 0) [] (dgE O ns2 dg) y w2)
  (fun _ w2 => ∃ a2 : Ptr, a2.1 = .map (some m) ∧ Mem w0 Ow b r d m (Pg.w { q with now := q.t } a2) f2 (.slice none 0 0) [] (dgE O ns2 dg) (kpx q y) w2)
  ww M (fun _ h => ⟨⟨_, _, h.bd⟩, h.rd⟩) ?_ ?_ ?_ ?_ ?_ ?_ ?_ ?_ ?_) ?_
 ·rintro s w2 ⟨a2, _, h⟩
  exact ⟨_, _, h.bd⟩
 ·rintro s w2 ⟨a2, _, tv', h⟩
  exact ⟨_, _, _, h.bd, h.rd, hm⟩
 ·rintro s w2 ⟨a2, _, h⟩
  exact ⟨_, _, _, h.bd, h.rd, rfl⟩
 ·rintro s w2 ⟨a2, _, h⟩
  exact ⟨⟨_, _, h.bd⟩, h.rd.bg.c0, h.rd.dk.c0⟩
 ·rintro s w2 ⟨a2, h1, h⟩
  exact ⟨a2, h1, Mem.firm _ _ h ((Below.refl _ _).drew)⟩
 ·intro w2 M2
  refine Calls.mono (T w0 Ow b r d m a tv ns X ha w2 M2) ?_
  rintro e w' ⟨rfl, h⟩
  exact ⟨(), rfl, hO, h⟩
 ·rintro s w2 ⟨a2, h1, h⟩
  refine Calls.mono (K w0 Ow b r d m X _ _ _ _ _ w2 h) ?_
  rintro e w' ⟨rfl, h2⟩
  exact ⟨rfl, a2, h1, h2⟩
 ·rintro s w2 ⟨a2, h1, tv', h⟩
  refine Calls.mono (en X O w2 h) ?_
  rintro e w' ⟨rfl, h2⟩
  exact ⟨rfl, a2, h1, h2⟩
 ·rintro s w2 ⟨a2, h1, h⟩
  refine Calls.mono (hk X (q.w a2) (hg.w h1) (show HOk (q.w a2) y N from ⟨ho.now, ho.z, ho.b, ho.f, ho.n⟩) hN w2 h) ?_
  rintro e w' ⟨rfl, bk, fo, _, h4⟩
  exact ⟨rfl, (a2.1, bk, fo), h1, h4⟩
 ·rintro e w' ⟨_, rfl, a2, h1, h2⟩
  exact ⟨rfl, a2, _, h1, h2⟩
theorem kpNC {ns : List UInt8} (c : UInt8) (hn : ns.length ≤ 17592186044416) : KpC ns c 0 (ns ++ [c]) := fun _ _ _ _ _ _ X _ _ _ _ _ ww M => kpN X c hn ww M
theorem kpIC {ns : List UInt8} (c : UInt8) (hn : ns.length ≤ 17592186044416) (h0 : 0 < ns.length) : KpC ns c 1 (ns ++ [c]) := fun _ _ _ _ _ _ X _ _ _ _ _ ww M => kpI X c hn h0 ww M
theorem kp0C (c : UInt8) (mode : Int) (hm : mode = 1 ∨ mode = 2 ∨ mode = 3) : KpC [] c mode [] := fun _ _ _ _ _ _ _ _ _ _ _ _ ww M => kp0 c mode hm ww M
theorem InvP.end {N : Nat} {s : Sg} (inv : InvP N s) {q : Pg} {f2 : Int → Value} {y : Hst} {O : Int} {ns2 : List UInt8} (hg : GoodP q) (hf : GoodF f2) (hn : q.none' = q) (hm : ¬ q.mode = 1) (ho : HOk q y N) (hN : N ≤ 90000) (hd : O = 2 → 0 < ns2.length → DoOk ⟨ns2.toArray⟩) (hl : ns2.length ≤ N + 1) : InvP (N + 1) ⟨{ q with now := q.t }, f2, [], dgE O ns2 s.dg, kpx q y⟩ := by
 have hq : ({ q with now := q.t } : Pg).none' = { q with now := q.t } := congrArg (fun z : Pg => { z with now := q.t }) hn
 have ho2 : HOk { q with now := q.t } (kpx q y) (N + 1) := by
  unfold kpx
  split
  ·next e => exact ⟨e.trans ho.now, ho.z, ho.b, ho.f, Nat.le_succ_of_le ho.n⟩
  ·refine ⟨rfl, hg.ts, ?_, trivial, by have := ho.n; simp; omega⟩
   have := ho.b
   rw [← ho.now] at this
   exact OkS.keep this hg.ts (by rw [ho.now]; exact ho.z)
 refine ⟨⟨hg.ts, hg.pl, hg.st, hg.an, hg.mo, hg.n, hg.bh, hg.fd⟩, hq ▸ GoodB.none _, hf, ho2, Nat.zero_le _, fun _ => rfl, ?_, ?_, ?_⟩
 ·by_cases h0 : q.mode = 0
  ·exact Or.inl ⟨h0, by rw [bg_none hq]; rfl⟩
  ·have := hg.mo
   exact Or.inr (Or.inr ⟨by show q.mode = 2 ∨ q.mode = 3; omega, rfl⟩)
 ·show DoOk (dgE O ns2 s.dg)
  unfold dgE
  split
  ·next h => exact hd h.1 h.2
  ·exact inv.d
 ·show (dgE O ns2 s.dg).size ≤ N + 1
  unfold dgE
  split
  ·show ns2.toArray.size ≤ N + 1
   simpa using hl
  ·have := inv.z; omega
theorem InvP.more {N : Nat} {s : Sg} (h : InvP N s) {p2 : Pg} {f2 : Int → Value} {ns2 : List UInt8} (hg : GoodP p2) (hb : GoodB p2) (hf : GoodF f2) (e : p2.now = s.p.now) (hn : ns2.length ≤ N + 1) (ht : ¬ p2.mode = 1 → p2.t = p2.now) (hy : TyOk p2 ns2) : InvP (N + 1) ⟨p2, f2, ns2, s.dg, s.x⟩ :=
 ⟨hg, hb, hf, ⟨e.trans h.h.now, h.h.z, h.h.b, h.h.f, Nat.le_succ_of_le h.h.n⟩, hn, ht, hy, h.d, Nat.le_succ_of_le h.z⟩
theorem qt96 {P : Prop} (h : P := by
  show ({ p with pl := escPl p, mode := 0, anchor := 0, reg := 0, n := 0, verb := 0, behind := 0, part := 0 } : Pg) = _
  rw [show p.reg = 0 from z5, show p.n = 0 from z1, show p.verb = 0 from z2, show p.behind = 0 from z3, show p.part = 0 from z4]
 ) : P := h
theorem pressU (HA : AnyOk) {N : Nat} (s : Sg) (c : UInt8) (inv : InvP N s) (hN : N ≤ 90000) : ∃ O s2, PrC s c O s2 ∧ InvP (N + 1) s2 := by
 obtain ⟨p, f, ns, dg, x⟩ := s
 have hn : ns.length ≤ N := inv.n
 have ln : (ns ++ [c]).length ≤ N + 1 := by simp; omega
 have fin : ∀ (O : Int) (q : Pg) (f2 : Int → Value) (y : Hst) (ns2 : List UInt8), TkD p f dg x c.toNat O q f2 y → KpC ns c p.mode ns2 → (O = 1 ∨ O = 2 ∨ O = 4) → GoodP q → GoodF f2 → q.none' = q → ¬ q.mode = 1 → HOk q y N → (O = 2 → 0 < ns2.length → DoOk ⟨ns2.toArray⟩) → ns2.length ≤ N + 1 → ∃ O s2, PrC ⟨p, f, ns, dg, x⟩ c O s2 ∧ InvP (N + 1) s2 :=
  fun O q f2 y ns2 T K hO hg hf hnn hm ho hd hl => ⟨O, _, eEnd T K qo hm hg ho qo, inv.end hg hf hnn hm ho hN hd hl⟩
 have hgo : GoodP p := inv.g
 have hho : HOk p x N := inv.h
 rcases hgo.mo with hm | hm | hm
 ·
  have hm1 : ¬ p.mode = 1 := by rw [hm]; decide
  have hr : runK bg0 ns = some (bg p) := by
   rcases inv.y with h | h | h
   ·exact h.2
   ·exact absurd h.1 hm1
   ·have h1 : p.mode = 2 ∨ p.mode = 3 := h.1; omega
  have KP : KpC ns c p.mode (ns ++ [c]) := by rw [hm]; exact kpNC c qo
  by_cases k27 : (c.toNat : Int) = 27
  ·exact fin 1 { p.none' with mode := 0, anchor := 0 } f x _ (by rw [k27]; exact (tkXU p f hgo hm1).d dg x) KP (Or.inl rfl) (escNP hgo hm1) inv.f rfl (by show ¬ (0 : Int) = 1; decide) (hho.of rfl) (fun h => absurd h qd) ln
  by_cases hx : p.verb = 0 → p.part = 0 → ¬ (c.toNat : Int) = 117 ∧ ¬ (c.toNat : Int) = 18 ∧ ¬ (c.toNat : Int) = 46
  ·rcases tkNU HA p f c hgo inv.b inv.f hm k27 hx with ⟨p2, h1, h2, h3, h4, h5⟩ | ⟨h1, O, p2, f2, g1, g2, g3, g4, g5, g6, g7, _, g8⟩
   ·obtain ⟨a1, a2, a3, a4, a5, e⟩ := h4
    have e1 : p2.mode = p.mode := by rw [e]
    have e2 : p2.t = p.t := by rw [e]
    have e3 : p2.now = p.now := by rw [e]
    exact ⟨0, _, eGo h5 KP (Or.inl rfl), inv.more h2 h3 inv.f e3 ln (fun _ => by rw [e2, e3]; exact inv.t hm1) (Or.inl ⟨e1.trans hm, by rw [runK_add, hr]; show nxt (bg p) (c.toNat : Int) = _; rw [nxt_bg, h1]; rfl⟩)⟩
   ·by_cases hp2 : p2.mode = 1
    ·have hO4 : ¬ O = 4 := fun e => hm1 (by rw [← g6 e]; exact hp2)
     exact ⟨O, _, eGo g8 KP (Or.inr ⟨by omega, hp2⟩), inv.more g2 (g4 ▸ GoodB.none p2) g3 g5 ln (fun h => absurd hp2 h) (Or.inr (Or.inl ⟨hp2, Or.inr ⟨ns, c, [], bg p, rfl, hr, ⟨k27, hx⟩, by rw [nxt_bg, h1]; rfl, (g7 hO4).1 hp2, by simp⟩⟩))⟩
    ·exact fin O p2 f2 x _ (g8.d dg x) KP g1 g2 g3 g4 hp2 (hho.of g5) (fun e _ => do_normal hr ⟨k27, hx⟩ h1 (fun hi => hp2 ((g7 qo).2 hi))) ln
  ·have hv : p.verb = 0 := by
    rcases isVb_or inv.b with h | h
    ·exact h
    ·exact absurd (fun e => absurd e (vb_flags h).2) hx
   have hp : p.part = 0 := by
    by_cases h : p.part = 0
    ·exact h
    ·exact absurd (fun _ e => absurd e h) hx
   have hk3 : (c.toNat : Int) = 117 ∨ (c.toNat : Int) = 18 ∨ (c.toNat : Int) = 46 := by
    by_cases h1 : (c.toNat : Int) = 117
    ·exact Or.inl h1
    ·by_cases h2 : (c.toNat : Int) = 18
     ·exact Or.inr (Or.inl h2)
     ·by_cases h3 : (c.toNat : Int) = 46
      ·exact Or.inr (Or.inr h3)
      ·exact absurd (fun _ _ => ⟨h1, h2, h3⟩) hx
   have hist : ∀ (t : ByteArray), t.size ≤ 1000 → GoodP (uQ p t).none' ∧ (uQ p t).none'.mode = 0 ∧ (uQ p t).none'.now = t := by
    intro t ht
    have h1 := goT_good (hgo.w (m := 0) (a := a0) rfl) hm t ht a0.2.1 a0.2.2
    have h2 := goT_t p t
    refine ⟨?_, h2.2.1.trans hm, rfl⟩
    have h3 : GoodP ({ goT (p.w a0) t with now := t, back := a0.2.1, forth := a0.2.2 } : Pg) := h1.p
    have h4 : ({ goT (p.w a0) t with now := t, back := a0.2.1, forth := a0.2.2 } : Pg) = (uQ p t).w a0 := by
     unfold uQ goT
     show ({ (if t = p.t then p.w a0 else _) with now := t, back := a0.2.1, forth := a0.2.2 } : Pg) = Pg.w { (if t = p.t then p else _) with now := t } a0
     split <;> rfl
    rw [h4] at h3
    exact h3.unw.forget
   rcases hk3 with hk | hk | hk
   ·have hle : min (max (cnt p) 1) x.2.1.length ≤ x.2.1.length := by omega
    have y1 := wlkN_ok x hho.z hho.b _ hle
    have y2 := wlkN_forth x hho.z hho.b hho.f _ hle
    have y3 := wlkN_len x _ hle
    obtain ⟨q1, q2, q3⟩ := hist _ y1.1
    refine fin (if x.2.1.length = 0 then 4 else 1) _ f _ _ (by rw [hk]; exact tkUU p f dg x N hgo hm hv hp (inv.t hm1) hho qo) KP (by split <;> simp) q1 inv.f rfl (by rw [q2]; decide) ⟨q3, y1.1, y1.2, y2, by have := hho.n; omega⟩ (fun e => ?_) ln
    split at e <;> simp at e
   ·have hsw : x = swp (swp x) := (swp_swp x).symm
    have hz : (swp x).1.size ≤ 1000 := hho.z
    have hb1 : OkS (swp x).1 (swp x).2.1 := hho.f
    have hb2 : OkS (swp x).1 (swp x).2.2.reverse := by have := hho.b; simpa [swp] using this
    have hle : min (max (cnt p) 1) (swp x).2.1.length ≤ (swp x).2.1.length := by omega
    have y1 := wlkN_ok (swp x) hz hb1 _ hle
    have y2 := wlkN_forth (swp x) hz hb1 hb2 _ hle
    have y3 := wlkN_len (swp x) _ hle
    have y4 : (swp x).2.1.length = x.2.2.length ∧ (swp x).2.2.length = x.2.1.length := by simp [swp]
    obtain ⟨q1, q2, q3⟩ := hist _ y1.1
    have T := tkRU p f dg (swp x) N hgo hm hv hp (inv.t hm1) (by rw [swp_swp]; exact hho) qo
    rw [swp_swp, ← hk] at T
    refine fin _ _ f _ _ T KP (by split <;> simp) q1 inv.f rfl (by rw [q2]; decide) ⟨q3, y1.1, y2, by have := y1.2; simpa [swp] using this, by have := hho.n; simp [swp] at *; omega⟩ (fun e => ?_) ln
    split at e <;> simp at e
   ·obtain ⟨O, p2, f2, h1, h2, h3, h4, h5, h6, _, _, T⟩ := tkDU HA p f dg x hgo inv.f hm hv hp inv.d (by have := inv.z; show dg.size ≤ _; have h0 : dg.size ≤ N := inv.z; omega)
    rw [← hk] at T
    exact fin O p2 f2 x _ T KP qo h2 h3 h4 h6 (hho.of h5) (fun e => by omega) ln
 ·
  have hy : ns = [] ∨ InsP ns := by
   rcases inv.y with h | h | h
   ·have h1 : p.mode = 0 := h.1; omega
   ·exact h.2
   ·have h1 : p.mode = 2 ∨ p.mode = 3 := h.1; omega
  have KP : ∃ ns2 : List UInt8, ns2.length ≤ N + 1 ∧ ((ns2 = [] ∧ ns = []) ∨ (InsP ns ∧ ns2 = ns ++ [c])) ∧ KpC ns c p.mode ns2 := by
   rcases hy with h | h
   ·refine ⟨[], Nat.zero_le _, Or.inl ⟨rfl, h⟩, ?_⟩
    rw [h]
    exact kp0C c p.mode (Or.inl hm)
   ·refine ⟨ns ++ [c], ln, Or.inr ⟨h, rfl⟩, ?_⟩
    rw [hm]
    have h0 : 0 < ns.length := by
     obtain ⟨us, k, js, q, e, _⟩ := h
     rw [e]; simp; omega
    exact kpIC c qo h0
  obtain ⟨ns2, l2, hs2, KP⟩ := KP
  by_cases k27 : (c.toNat : Int) = 27
  ·have hc : c = 27 := by
    apply UInt8.toNat_inj.1
    show c.toNat = 27
    omega
   obtain ⟨z1, z2, z3, z4, z5⟩ := inv.b.ins hm
   have hnn : ({ p with pl := escPl p, mode := 0, anchor := 0 } : Pg).none' = { p with pl := escPl p, mode := 0, anchor := 0 } := by
    exact qt96
   refine fin 2 { p with pl := escPl p, mode := 0, anchor := 0 } f x ns2 (by rw [k27]; exact (tkEU p f hgo hm).d dg x) KP (Or.inr (Or.inl rfl)) (escGP hgo) inv.f hnn (by show ¬ (0 : Int) = 1; decide) (hho.of rfl) (fun _ h0 => ?_) l2
   rcases hs2 with ⟨e, _⟩ | ⟨h2, e⟩
   ·rw [e] at h0; simp at h0
   ·rw [e, hc]; exact do_insert h2
  ·obtain ⟨a1, a2, a3, a4⟩ := insP_all p c
   have hm2 : ((insP p c).none').mode = 1 := a4.trans hm
   refine ⟨1, _, eGo (tkIU p f c hgo hm k27) KP (Or.inr ⟨by decide, hm2⟩), inv.more (insP_goodP c hgo hm).forget (GoodB.none _) inv.f a1 l2 (fun h => absurd hm2 h) (Or.inr (Or.inl ⟨hm2, ?_⟩))⟩
   rcases hs2 with ⟨e, _⟩ | ⟨⟨us, k, js, q, b1, b2, b3, b4, b5, b6⟩, e⟩
   ·exact Or.inl e
   ·refine Or.inr ⟨us, k, js ++ [c], q, by rw [e, b1]; simp, b2, b3, b4, b5, ?_⟩
    intro j hj
    rcases List.mem_append.1 hj with h | h
    ·exact b6 j h
    ·simp at h; rw [h]; exact k27
 ·
  have hm1 : ¬ p.mode = 1 := by omega
  have hns : ns = [] := by
   rcases inv.y with h | h | h
   ·have h1 : p.mode = 0 := h.1; omega
   ·exact absurd h.1 hm1
   ·exact h.2
  subst hns
  have KP : KpC [] c p.mode [] := kp0C c p.mode (Or.inr hm)
  by_cases k27 : (c.toNat : Int) = 27
  ·exact fin 1 { p.none' with mode := 0, anchor := 0 } f x [] (by rw [k27]; exact (tkXU p f hgo hm1).d dg x) KP (Or.inl rfl) (escNP hgo hm1) inv.f rfl (by show ¬ (0 : Int) = 1; decide) (hho.of rfl) (fun h => absurd h qd) (Nat.zero_le _)
  ·rcases tkMU HA p f c.toNat hgo inv.b inv.f hm k27 with ⟨p2, h1, h2, h3, h4, h5⟩ | ⟨h1, O, p2, f2, g1, g2, g3, g4, g5, g6, g7, _, g8⟩
   ·obtain ⟨a1, a2, a3, a4, a5, e⟩ := h4
    have e1 : p2.mode = p.mode := by rw [e]
    have e2 : p2.t = p.t := by rw [e]
    have e3 : p2.now = p.now := by rw [e]
    exact ⟨0, _, eGo h5 KP (Or.inl rfl), inv.more h2 h3 inv.f e3 (Nat.zero_le _) (fun _ => by rw [e2, e3]; exact inv.t hm1) (Or.inr (Or.inr ⟨by rw [e1]; exact hm, rfl⟩))⟩
   ·by_cases hp2 : p2.mode = 1
    ·exact ⟨O, _, eGo g8 KP (Or.inr ⟨by omega, hp2⟩), inv.more g2 (g4 ▸ GoodB.none p2) g3 g5 (Nat.zero_le _) (fun h => absurd hp2 h) (Or.inr (Or.inl ⟨hp2, Or.inl rfl⟩))⟩
    ·exact fin O p2 f2 x [] (g8.d dg x) KP g1 g2 g3 g4 hp2 (hho.of g5) (fun _ h0 => by simp at h0) (Nat.zero_le _)
theorem waits_none {p : Pg} (h : p.none' = p) : waits p = false := by rw [← h]; rfl
theorem eql_stateK (s : ByteArray) (a b c : Int) (d : Bool) (w : World) : (binOp .eql 32 (.agg #[.string s, .int .i64 a, .int .i64 b, .int .i64 c, .bool d]) (.agg #[.string s, .int .i64 a, .int .i64 b, .int .i64 c, .bool d])).run Tryz.prog w = .ok (.bool true) w := by
 have e : binOp .eql 32 (.agg #[.string s, .int .i64 a, .int .i64 b, .int .i64 c, .bool d]) (.agg #[.string s, .int .i64 a, .int .i64 b, .int .i64 c, .bool d]) = (do pure (.bool (← Op.equal 32 (.agg #[.string s, .int .i64 a, .int .i64 b, .int .i64 c, .bool d]) (.agg #[.string s, .int .i64 a, .int .i64 b, .int .i64 c, .bool d])))) := rfl
 rw [e]
 simp only [Sem.run_bind, eq_stateK, Result.andThen_ok]
 rfl
def RunP : List UInt8 → Sg → Nat → Sg → Prop
 | [], s, n, s2 => n = 0 ∧ s2 = s
 | c :: cs, s, n, s2 => ∃ (O : Int) (s1 : Sg) (n1 : Nat), PrC s c O s1 ∧ RunP cs s1 n1 s2 ∧ n = (if O = 4 then 1 else 0) + n1
theorem RunP.ex (HA : AnyOk) : ∀ (ks : List UInt8) (N : Nat) (s : Sg), InvP N s → N + ks.length ≤ 90000 → ∃ n s2, RunP ks s n s2 ∧ InvP (N + ks.length) s2 := by
 intro ks
 induction ks with
 | nil => intro N s inv _; exact ⟨0, s, ⟨rfl, rfl⟩, inv⟩
 | cons c cs ih =>
  intro N s inv hN
  simp only [List.length_cons] at hN
  obtain ⟨O, s1, h1, i1⟩ := pressU HA s c inv qo
  obtain ⟨n, s2, h2, i2⟩ := ih (N + 1) s1 i1 qo
  refine ⟨_, s2, ⟨O, s1, n, h1, h2, rfl⟩, ?_⟩
  rw [List.length_cons, show N + (cs.length + 1) = N + 1 + cs.length by omega]
  exact i2
theorem RunP.split : ∀ (a b : List UInt8) (s : Sg) (n : Nat) (s2 : Sg), RunP (a ++ b) s n s2 → ∃ n1 s1 n2, RunP a s n1 s1 ∧ RunP b s1 n2 s2 ∧ n = n1 + n2 := by
 intro a
 induction a with
 | nil => intro b s n s2 h; exact ⟨0, s, n, ⟨rfl, rfl⟩, h, by omega⟩
 | cons c cs ih =>
  rintro b s n s2 ⟨O, s1, n1, h1, h2, h3⟩
  obtain ⟨m1, t1, m2, k1, k2, k3⟩ := ih b s1 n1 s2 h2
  exact ⟨_, t1, m2, ⟨O, s1, m1, h1, k1, rfl⟩, k2, by omega⟩
theorem runType {ks : List UInt8} {s s2 : Sg} {n : Nat} (hR : RunP ks s n s2) (hz : ks.length ≤ 17592186044416) {w0 : World} {Ow : List Nat} {b r d m q : Nat} (X : Fix w0 Ow b r d m) (ww : World) (hq : ww.cell? ⟨q, 0, none⟩ = some (.pointer (some ⟨b, 0, none⟩))) (M : MemS w0 Ow b r d m s ww) :
  Calls Tryz.prog 17 #[.pointer (some ⟨q, 0, none⟩), .string ⟨ks.toArray⟩] ww fun e w' => e = .returned (.int .i64 (n : Nat)) ∧ MemS w0 Ow b r d m s2 w' := by
 have hsz : (⟨ks.toArray⟩ : ByteArray).size = ks.length := rfl
 refine Calls.mono (nTypeY q b ⟨ks.toArray⟩ ww (fun n' w' => n' = n ∧ MemS w0 Ow b r d m s2 w') hq ?_) ?_
 ·rintro v rfl
  refine Calls.mono (bType_cnt b ⟨ks.toArray⟩ (fun k n' ww => ∃ sk nk, RunP (ks.drop k) sk nk s2 ∧ n' + nk = n ∧ MemS w0 Ow b r d m sk ww) v ⟨s, n, hR, by omega, M⟩ qo ?_) ?_
  ·rintro k n' hk w1 ⟨sk, nk, hR2, e, M2⟩
   have hk2 : k < ks.length := by omega
   rw [List.drop_eq_getElem_cons hk2] at hR2
   obtain ⟨O, s1, n1, h1, h2, h3⟩ := hR2
   have hc : (⟨ks.toArray⟩ : ByteArray)[k]'hk = ks[k]'hk2 := rfl
   rw [hc]
   refine Calls.mono (h1 w0 Ow b r d m X w1 M2) ?_
   rintro e w' ⟨rfl, M3⟩
   refine ⟨O, rfl, fun h => ⟨s1, n1, h2, ?_, M3⟩, fun h => ⟨s1, n1, h2, ?_, M3⟩⟩
   ·rw [if_pos h] at h3; omega
   ·rw [if_neg h] at h3; omega
  ·rintro e w' ⟨n', rfl, sk, nk, hR2, e, M2⟩
   rw [hsz, List.drop_length] at hR2
   obtain ⟨e1, e2⟩ := hR2
   refine ⟨n', rfl, by omega, ?_⟩
   rw [e2]
   exact M2
 ·rintro e w' ⟨n', rfl, rfl, h⟩
  exact ⟨rfl, h⟩
def sg0 (t : ByteArray) : Sg := ⟨newPg t 0, f0, [], ⟨#[]⟩, (t, [], [])⟩
theorem sg0_inv (t : ByteArray) (ht : t.size ≤ 1000) : InvP 0 (sg0 t) :=
 ⟨⟨ht, Nat.zero_le _, fun _ => zero_settled _, fun _ => Nat.zero_le _, Or.inl rfl, Nat.zero_le _, Nat.zero_le _, Or.inl rfl⟩, ⟨Or.inl rfl, Or.inl rfl, fun h => absurd h (by show ¬ (0 : Int) = 1; decide)⟩, fun c => ⟨⟨#[]⟩, false, rfl, by decide⟩, ⟨rfl, ht, trivial, trivial, Nat.le_refl _⟩, Nat.le_refl _, fun _ => rfl, Or.inl ⟨rfl, rfl⟩, Or.inl rfl, Nat.le_refl _⟩
theorem New7.mems {w W : World} {q b r d m : Nat} {t : ByteArray} (N : New7 w W q b r d m t) : Fix W [] b r d m ∧ MemS W [] b r d m (sg0 t) W := by
 refine ⟨⟨N.ly, N.rd.ne, N.bd.lt, N.rd.bg.lt, N.rd.dk.lt, N.rg.lt, fun k hk => by simp at hk⟩, (.map (some m), .slice none 0 0, .slice none 0 0), .slice none 0 0, rfl, ?_⟩
 exact ⟨N.bd, N.rd, N.rg, World.ownsRow_nil _ _ _ _, World.ownsRow_nil _ _ _ _, World.ownsRow_nil _ _ _ _, (fun k hk => by simp [Value.ownBlock] at hk), (fun k hk => by simp [Value.ownBlock] at hk), (fun k hk => by simp [Value.ownBlock] at hk), (fun k hk => by simp [Value.ownBlock] at hk), (fun k hk => by simp [Value.ownBlock] at hk), (fun k hk => by simp [Value.ownBlock] at hk), Upd.refl _ _⟩
theorem MemS.rebase {w0 ww v : World} {Ow : List Nat} {b r d m : Nat} {s : Sg} (X : Fix w0 Ow b r d m) (h : MemS w0 Ow b r d m s ww) (hb : Below ww.heap.size ww v) :
  ∃ O2, (∀ k, k ∈ O2 → k < ww.heap.size ∧ Free w0 Ow b r d m k) ∧ Fix v O2 b r d m ∧ MemS v O2 b r d m s v := by
 obtain ⟨a, tv, ha, M⟩ := h
 have M2 := Mem.firm _ _ M hb
 have z0 := M.up.size
 have z1 := hb.size
 have mem : ∀ k, k ∈ own tv ++ (own a.2.1 ++ own a.2.2) → k < ww.heap.size ∧ Free w0 Ow b r d m k := by
  intro k hk
  rcases List.mem_append.1 hk with h | h
  ·exact ⟨(M.ty.lt k (mem_own.1 h)).2, M.tl k (mem_own.1 h)⟩
  ·rcases List.mem_append.1 h with h | h
   ·exact ⟨(M.bk.lt k (mem_own.1 h)).2, M.bl k (mem_own.1 h)⟩
   ·exact ⟨(M.fo.lt k (mem_own.1 h)).2, M.fl k (mem_own.1 h)⟩
 refine ⟨own tv ++ (own a.2.1 ++ own a.2.2), mem, ⟨X.ly, X.rd, ?_, ?_, ?_, ?_, fun k hk => (mem k hk).2.1⟩, a, tv, ha, ⟨M2.bd, M2.rd, M2.rg, M2.ty, M2.bk, M2.fo, ?_, ?_, ?_, M2.tb, M2.tf, M2.bf, Upd.refl _ _⟩⟩
 ·have := X.lb; omega
 ·have := X.lr; omega
 ·have := X.ld; omega
 ·have := X.lm; omega
 ·intro k hk; exact ⟨(M.tl k hk).1, Or.inl (by simp [mem_own.2 hk])⟩
 ·intro k hk; exact ⟨(M.bl k hk).1, Or.inl (by simp [mem_own.2 hk])⟩
 ·intro k hk; exact ⟨(M.fl k hk).1, Or.inl (by simp [mem_own.2 hk])⟩
theorem MemS.apart {v w' : World} {Ow S : List Nat} {b r d m : Nat} {s : Sg} (X : Fix v Ow b r d m) (h : MemS v Ow b r d m s v) (hu : Upd S v w') (hd : ∀ k, k ∈ S → k ∉ b :: r :: d :: m :: Ow) : Fix w' Ow b r d m ∧ MemS w' Ow b r d m s w' := by
 obtain ⟨a, tv, ha, M⟩ := h
 have z0 := hu.size
 have nb : b ∉ S := fun h => hd b h qi
 have nr : r ∉ S := fun h => hd r h qi
 have nd : d ∉ S := fun h => hd d h qi
 have nm : m ∉ S := fun h => hd m h qi
 have row : ∀ k, k < v.heap.size → Free v Ow b r d m k → k ∉ S := by
  intro k hk hf h
  rcases hf.2 with h2 | h2
  ·exact hd k h (by simp [h2])
  ·omega
 refine ⟨⟨X.ly, X.rd, by have := X.lb; omega, by have := X.lr; omega, by have := X.ld; omega, by have := X.lm; omega, X.nw⟩, a, tv, ha, M.bd.upd hu nb, M.rd.upd hu nr nd, M.rg.upd hu nm, ownsRow_upd M.ty hu ?_, ownsRow_upd M.bk hu ?_, ownsRow_upd M.fo hu ?_, ?_, ?_, ?_, M.tb, M.tf, M.bf, Upd.refl _ _⟩
 ·intro k hk e; exact row k (M.ty.lt k e).2 (M.tl k e) hk
 ·intro k hk e; exact row k (M.bk.lt k e).2 (M.bl k e) hk
 ·intro k hk e; exact row k (M.fo.lt k e).2 (M.fl k e) hk
 ·intro k e
  have h1 := (M.ty.lt k e).2
  have h2 := M.tl k e
  exact ⟨h2.1, Or.inl (h2.2.resolve_right qo)⟩
 ·intro k e
  have h1 := (M.bk.lt k e).2
  have h2 := M.bl k e
  exact ⟨h2.1, Or.inl (h2.2.resolve_right qo)⟩
 ·intro k e
  have h1 := (M.fo.lt k e).2
  have h2 := M.fl k e
  exact ⟨h2.1, Or.inl (h2.2.resolve_right qo)⟩
theorem MemS.state {w0 ww : World} {Ow : List Nat} {b r d m q : Nat} {s : Sg} (h : MemS w0 Ow b r d m s ww) (hq : ww.cell? ⟨q, 0, none⟩ = some (.pointer (some ⟨b, 0, none⟩))) :
  qC 18 #[.pointer (some ⟨q, 0, none⟩)] ww (.agg #[.string s.p.t, .int .i64 (s.p.pl : Nat), .int .i64 (s.p.anchor : Nat), .int .i64 s.p.mode, .bool (waits s.p)]) := by
 obtain ⟨a, tv, ha, M⟩ := h
 exact nState q b r d tv s.dg (s.p.w a) ww hq M.bd M.rd
theorem MemS.reg {w0 ww : World} {Ow : List Nat} {b r d m q : Nat} {s : Sg} {c : Int} {t : ByteArray} {l : Bool} (h : MemS w0 Ow b r d m s ww) (hq : ww.cell? ⟨q, 0, none⟩ = some (.pointer (some ⟨b, 0, none⟩))) (hf : s.f c = .agg #[.string t, .bool l]) :
  qC 20 #[.pointer (some ⟨q, 0, none⟩), .int .u8 c] ww (.tuple #[.string t, .bool l]) := by
 obtain ⟨a, tv, ha, M⟩ := h
 exact nRegister_at q b r d m tv s.dg (s.p.w a) c s.f t l ww hq M.bd M.rd ha M.rg hf
def Rest (s : Sg) : Prop := s.p.mode = 0 ∧ s.p.none' = s.p ∧ s.ns = []
theorem nnow {q : Pg} (h : q.none' = q) : ({ q with now := q.t } : Pg).none' = { q with now := q.t } := congrArg (fun z : Pg => { z with now := q.t }) h
theorem escU {N : Nat} (s : Sg) (c : UInt8) (k27 : (c.toNat : Int) = 27) (inv : InvP N s) (hN : N ≤ 90000) : ∃ O s2, PrC s c O s2 ∧ InvP (N + 1) s2 ∧ Rest s2 := by
 obtain ⟨p, f, ns, dg, x⟩ := s
 have hn : ns.length ≤ N := inv.n
 have ln : (ns ++ [c]).length ≤ N + 1 := by simp; omega
 have hgo : GoodP p := inv.g
 have hho : HOk p x N := inv.h
 have hc : c = 27 := by
  apply UInt8.toNat_inj.1
  show c.toNat = 27
  omega
 have fin : ∀ (O : Int) (q : Pg) (ns2 : List UInt8), TkD p f dg x c.toNat O q f x → KpC ns c p.mode ns2 → (O = 1 ∨ O = 2) → GoodP q → q.none' = q → q.mode = 0 → q.now = p.now → (O = 2 → 0 < ns2.length → DoOk ⟨ns2.toArray⟩) → ns2.length ≤ N + 1 → ∃ O s2, PrC ⟨p, f, ns, dg, x⟩ c O s2 ∧ InvP (N + 1) s2 ∧ Rest s2 := by
  intro O q ns2 T K hO hg hnn hm e hd hl
  exact ⟨O, _, eEnd T K qo (by rw [hm]; decide) hg (hho.of e) qo, inv.end hg inv.f hnn (by rw [hm]; decide) (hho.of e) hN hd hl, hm, nnow hnn, rfl⟩
 by_cases hm : p.mode = 1
 ·have hy : ns = [] ∨ InsP ns := by
   rcases inv.y with h | h | h
   ·have h1 : p.mode = 0 := h.1; omega
   ·exact h.2
   ·have h1 : p.mode = 2 ∨ p.mode = 3 := h.1; omega
  obtain ⟨z1, z2, z3, z4, z5⟩ := inv.b.ins hm
  have hnn : ({ p with pl := escPl p, mode := 0, anchor := 0 } : Pg).none' = { p with pl := escPl p, mode := 0, anchor := 0 } := by
   exact qt96
  have T : TkD p f dg x c.toNat 2 { p with pl := escPl p, mode := 0, anchor := 0 } f x := by rw [k27]; exact (tkEU p f hgo hm).d dg x
  rcases hy with h | h
  ·exact fin 2 _ [] T (by rw [h, hm]; exact kp0C c 1 (Or.inl rfl)) (Or.inr rfl) (escGP hgo) hnn rfl rfl (fun _ h0 => by simp at h0) (Nat.zero_le _)
  ·have h0 : 0 < ns.length := by
    obtain ⟨us, k, js, q, e, _⟩ := h
    rw [e]; simp; omega
   exact fin 2 _ (ns ++ [c]) T (by rw [hm]; exact kpIC c qo h0) (Or.inr rfl) (escGP hgo) hnn rfl rfl (fun _ _ => by rw [hc]; exact do_insert h) ln
 ·have T : TkD p f dg x c.toNat 1 { p.none' with mode := 0, anchor := 0 } f x := by rw [k27]; exact (tkXU p f hgo hm).d dg x
  by_cases h0 : p.mode = 0
  ·exact fin 1 _ (ns ++ [c]) T (by rw [h0]; exact kpNC c qo) (Or.inl rfl) (escNP hgo hm) rfl rfl rfl (fun h => absurd h qd) ln
  ·have hm3 : p.mode = 2 ∨ p.mode = 3 := by have := hgo.mo; omega
   have hns : ns = [] := by
    rcases inv.y with h | h | h
    ·exact absurd h.1 h0
    ·exact absurd h.1 hm
    ·exact h.2
   exact fin 1 _ [] T (by rw [hns]; exact kp0C c p.mode (Or.inr hm3)) (Or.inl rfl) (escNP hgo hm) rfl rfl rfl (fun h => absurd h qd) (Nat.zero_le _)
theorem RunP.app : ∀ (a b : List UInt8) (s s1 s2 : Sg) (n m : Nat), RunP a s n s1 → RunP b s1 m s2 → RunP (a ++ b) s (n + m) s2 := by
 intro a
 induction a with
 | nil => rintro b s s1 s2 n m ⟨rfl, rfl⟩ h; rw [Nat.zero_add]; exact h
 | cons c cs ih =>
  rintro b s s1 s2 n m ⟨O, t1, n1, h1, h2, h3⟩ h
  exact ⟨O, t1, n1 + m, h1, ih b t1 s1 s2 n1 m h2 h, by omega⟩
theorem usRun (HA : AnyOk) (f : Int → Value) (hf : GoodF f) (dg : ByteArray) (x : Hst) : ∀ (us : List UInt8) (p q : Pg) (ns : List UInt8), GoodP p → GoodB p → p.mode = 0 → runK p us = some q → ns.length + us.length ≤ 100000 →
  RunP us ⟨p, f, ns, dg, x⟩ 0 ⟨q, f, ns ++ us, dg, x⟩ ∧ (∀ rest O p2 f2, RunT rest q f O p2 f2 → RunT (us ++ rest) p f O p2 f2) ∧ GoodP q ∧ GoodB q ∧ BegD p q := by
 intro us
 induction us with
 | nil =>
  intro p q ns hg gb hm hr hl
  have e : p = q := by simpa [runK] using hr
  subst e
  exact ⟨⟨rfl, by rw [List.append_nil]⟩, fun rest O p2 f2 h => h, hg, gb, ⟨p.reg, p.n, p.verb, p.behind, p.part, rfl⟩⟩
 | cons c cs ih =>
  intro p q ns hg gb hm hr hl
  simp only [List.length_cons] at hl
  have hr2 : (nxt p (c.toNat : Int)).bind (fun q2 => runK q2 cs) = some q := hr
  cases hx : nxt p (c.toNat : Int) with
  | none => rw [hx] at hr2; cases hr2
  | some p1 =>
   rw [hx] at hr2
   have hr3 : runK p1 cs = some q := hr2
   have ok := nxt_ok hx (isVb_or gb)
   rcases tkNU HA p f c hg gb hf hm ok.1 ok.2 with ⟨p2, h1, h2, h3, h4, h5⟩ | ⟨h1, _⟩
   ·rw [hx] at h1
    injection h1 with h1
    subst h1
    have hb := h4
    obtain ⟨a1, a2, a3, a4, a5, e⟩ := h4
    have e1 : p1.mode = 0 := by rw [e]; exact hm
    obtain ⟨i1, i2, i3, i4, b1, b2, b3, b4, b5, i5⟩ := ih p1 q (ns ++ [c]) h2 h3 e1 hr3 qs
    rw [List.append_assoc] at i1
    refine ⟨⟨0, _, 0, eGo h5 (by rw [hm]; exact kpNC c qo) (Or.inl rfl), i1, by simp⟩, fun rest O p3 f3 h => ⟨0, p1, f, h5, Or.inr ⟨by decide, i2 rest O p3 f3 h⟩⟩, i3, i4, b1, b2, b3, b4, b5, ?_⟩
    rw [i5, e]
   ·rw [hx] at h1; cases h1
def insAll : Pg → List UInt8 → Pg
 | p, [] => p
 | p, c :: cs => insAll (insP p c).none' cs
theorem insRun (f : Int → Value) (dg : ByteArray) (x : Hst) : ∀ (js : List UInt8) (p : Pg) (ns : List UInt8), GoodP p → p.mode = 1 → p.none' = p → 0 < ns.length → ns.length + js.length ≤ 100000 → (∀ k, k ∈ js → ¬ (k.toNat : Int) = 27) →
  RunP js ⟨p, f, ns, dg, x⟩ 0 ⟨insAll p js, f, ns ++ js, dg, x⟩ ∧ (∀ rest O p2 f2, RunT rest (insAll p js) f O p2 f2 → RunT (js ++ rest) p f O p2 f2) ∧ GoodP (insAll p js) ∧ (insAll p js).mode = 1 ∧ (insAll p js).none' = insAll p js ∧ (insAll p js).now = p.now := by
 intro js
 induction js with
 | nil =>
  intro p ns hg hm hn h0 hl hk
  exact ⟨⟨rfl, by rw [List.append_nil]; rfl⟩, fun rest O p2 f2 h => h, hg, hm, hn, rfl⟩
 | cons c cs ih =>
  intro p ns hg hm hn h0 hl hk
  simp only [List.length_cons] at hl
  have k27 := hk c (List.mem_cons_self ..)
  obtain ⟨a1, a2, a3, a4⟩ := insP_all p c
  have T := tkIU p f c hg hm k27
  have hm2 : ((insP p c).none').mode = 1 := a4.trans hm
  obtain ⟨i1, i2, i3, i4, i5, i6⟩ := ih (insP p c).none' (ns ++ [c]) (insP_goodP c hg hm).forget hm2 rfl qi qs (fun k h => hk k (List.mem_cons_of_mem _ h))
  rw [List.append_assoc] at i1
  exact ⟨⟨1, _, 0, eGo T (by rw [hm]; exact kpIC c qo h0) (Or.inr ⟨by decide, hm2⟩), i1, by simp⟩, fun rest O p2 f2 h => ⟨1, _, f, T, Or.inr ⟨by decide, i2 rest O p2 f2 h⟩⟩, i3, i4, i5, i6.trans a1⟩
def Seen (p p2 : Pg) : Prop := p2.t = p.t ∧ p2.pl = p.pl ∧ p2.anchor = p.anchor ∧ p2.mode = p.mode ∧ waits p2 = waits p
theorem runK_bg (p : Pg) : ∀ (us : List UInt8), runK (bg p) us = (runK p us).map bg := by
 intro us
 induction us generalizing p with
 | nil => rfl
 | cons c cs ih =>
  show (nxt (bg p) (c.toNat : Int)).bind (fun q2 => runK q2 cs) = ((nxt p (c.toNat : Int)).bind (fun q2 => runK q2 cs)).map bg
  rw [nxt_bg]
  cases nxt p (c.toNat : Int) with
  | none => rfl
  | some q => exact ih q
theorem act (HA : AnyOk) {N : Nat} (s : Sg) (inv : InvP N s) (hN : N ≤ 50000) (hr : Rest s) (us : List UInt8) (c : UInt8) (q : Pg) (js : List UInt8) (hul : us.length ≤ 10) (hjl : js.length ≤ 20) (hru : runK s.p us = some q) (hok : okK q (c.toNat : Int)) (hnx : nxt q (c.toNat : Int) = none) (hv : isV5 q.verb ∨ q.verb = 99) (hjs : ∀ k, k ∈ js → ¬ (k.toNat : Int) = 27) :
  (∃ s2, RunP (us ++ [c]) s 1 s2 ∧ InvP (N + 11) s2 ∧ ∀ is, ∃ p2 f2, RunT (us ++ c :: is) s.p s.f 4 p2 f2 ∧ GoodP p2 ∧ GoodF f2 ∧ p2.none' = p2 ∧ p2.now = s.p.now ∧ ¬ p2.mode = 1 ∧ Seen s.p p2) ∨
  (isV5 q.verb ∧ ∃ s2 p2 f2, RunP (us ++ [c]) s 0 s2 ∧ InvP (N + 11) s2 ∧ Rest s2 ∧ s2.dg = ⟨(us ++ [c]).toArray⟩ ∧ RunT (us ++ [c]) s.p s.f 1 p2 f2 ∧ GoodP p2 ∧ GoodF f2 ∧ p2.none' = p2 ∧ p2.now = s.p.now ∧ ¬ p2.mode = 1 ∧ s2.p = { p2 with now := p2.t }) ∨
  (q.verb = 99 ∧ ∃ s1 s2 p2 f2, RunP (us ++ [c]) s 0 s1 ∧ InvP (N + 11) s1 ∧ s1.p.mode = 1 ∧ RunP (js ++ [27]) s1 0 s2 ∧ InvP (N + 32) s2 ∧ Rest s2 ∧ s2.dg = ⟨((us ++ [c]) ++ (js ++ [27])).toArray⟩ ∧ RunT ((us ++ [c]) ++ (js ++ [27])) s.p s.f 1 p2 f2 ∧ GoodP p2 ∧ GoodF f2 ∧ p2.none' = p2 ∧ p2.now = s.p.now ∧ ¬ p2.mode = 1 ∧ s2.p = { p2 with now := p2.t }) := by
 obtain ⟨p, f, ns, dg, x⟩ := s
 obtain ⟨hm, hn, hns⟩ := hr
 have hns : ns = [] := hns
 subst hns
 have hm : p.mode = 0 := hm
 have hn : p.none' = p := hn
 obtain ⟨r1, r2, r3, r4, bd⟩ := usRun HA f inv.f dg x us p q [] inv.g inv.b hm hru qs
 rw [List.nil_append] at r1
 obtain ⟨b1, b2, b3, b4, b5, e⟩ := bd
 have e1 : q.mode = 0 := by rw [e]; exact hm
 have e2 : q.t = p.t := by rw [e]
 have e3 : q.now = p.now := by rw [e]
 have e4 : q.pl = p.pl := by rw [e]
 have e5 : q.anchor = p.anchor := by rw [e]
 have hv0 : ¬ q.verb = 0 := by unfold isV5 at hv; omega
 have hr0 : runK bg0 us = some (bg q) := by rw [← bg_none hn, runK_bg, hru]; rfl
 have hho : HOk p x N := inv.h
 have I1 : InvP (N + 10) ⟨q, f, us, dg, x⟩ := ⟨r3, r4, inv.f, ⟨e3.trans hho.now, hho.z, hho.b, hho.f, Nat.le_trans hho.n qo⟩, by show us.length ≤ N + 10; omega, fun _ => by show q.t = q.now; rw [e2, e3]; exact inv.t (by show ¬ p.mode = 1; rw [hm]; decide), Or.inl ⟨e1, hr0⟩, inv.d, by have h0 : dg.size ≤ N := inv.z; show dg.size ≤ N + 10; omega⟩
 have KP : KpC us c q.mode (us ++ [c]) := by rw [e1]; exact kpNC c qo
 have ln : (us ++ [c]).length ≤ N + 10 + 1 := by simp; omega
 rcases tkNU HA q f c r3 r4 inv.f e1 hok.1 hok.2 with ⟨p2, h1, _⟩ | ⟨_, O, p2, f2, g1, g2, g3, g4, g5, g6, g7, gs, g8⟩
 ·rw [hnx] at h1; cases h1
 ·have hnow : p2.now = p.now := g5.trans e3
  by_cases hO : O = 4
  ·left
   have m0 : p2.mode = 0 := (g6 hO).trans e1
   have m1 : ¬ p2.mode = 1 := by rw [m0]; decide
   have P := eEnd (g8.d dg x) KP qo m1 g2 (I1.h.of g5) qo
   refine ⟨_, RunP.app us [c] _ _ _ 0 1 r1 ⟨O, _, 0, P, ⟨rfl, rfl⟩, by rw [if_pos hO]⟩, I1.end g2 g3 g4 m1 (I1.h.of g5) qo (fun h => by omega) ln, fun is => ⟨p2, f2, r2 (c :: is) 4 p2 f2 ⟨O, p2, f2, g8, Or.inl ⟨hO, rfl, rfl, rfl⟩⟩, g2, g3, g4, hnow, m1, ?_⟩⟩
   obtain ⟨t1, t2, t3⟩ := gs.1 hO
   exact ⟨t1.trans e2, t2.trans e4, t3.trans e5, m0.trans hm.symm, by rw [waits_none g4]; exact (waits_none hn).symm⟩
  ·right
   rcases hv with hv5 | hv9
   ·left
    have hO2 : O = 2 := by have := gs.2.1 hv5; omega
    have hi : ¬ insK q (c.toNat : Int) := by
     unfold insK isV5 at *
     rintro (h | h)
     ·omega
     ·exact hv0 h.1
    have m1 : ¬ p2.mode = 1 := fun h => hi ((g7 hO).1 h)
    have m0 : p2.mode = 0 := by have := gs.2.2 hv0; omega
    have P := eEnd (g8.d dg x) KP qo m1 g2 (I1.h.of g5) qo
    have hd : dgE O (us ++ [c]) dg = ⟨(us ++ [c]).toArray⟩ := if_pos ⟨hO2, by simp⟩
    refine ⟨hv5, _, p2, f2, RunP.app us [c] _ _ _ 0 0 r1 ⟨O, _, 0, P, ⟨rfl, rfl⟩, by rw [if_neg hO]⟩, I1.end g2 g3 g4 m1 (I1.h.of g5) qo (fun _ _ => do_normal hr0 hok hnx hi) ln, ⟨m0, nnow g4, rfl⟩, hd, r2 [c] 1 p2 f2 ⟨O, p2, f2, g8, Or.inr ⟨hO, rfl, rfl, rfl⟩⟩, g2, g3, g4, hnow, m1, rfl⟩
   ·right
    have hi : insK q (c.toNat : Int) := Or.inl hv9
    have m1 : p2.mode = 1 := (g7 hO).2 hi
    have hiP : ∀ js' : List UInt8, (∀ k, k ∈ js' → ¬ (k.toNat : Int) = 27) → InsP (us ++ c :: js') := fun js' h => ⟨us, c, js', bg q, rfl, hr0, hok, by rw [nxt_bg, hnx]; rfl, hi, h⟩
    have P1 : PrC ⟨q, f, us, dg, x⟩ c O ⟨p2, f2, us ++ [c], dg, x⟩ := eGo g8 KP (Or.inr ⟨by omega, m1⟩)
    obtain ⟨i1, i2, i3, i4, i5, i6⟩ := insRun f2 dg x js p2 (us ++ [c]) g2 m1 g4 qi qs hjs
    generalize insAll p2 js = Q at *
    have hq : ({ Q with pl := escPl Q, mode := 0, anchor := 0 } : Pg).none' = { Q with pl := escPl Q, mode := 0, anchor := 0 } := congrArg (fun z : Pg => { z with pl := escPl Q, mode := 0, anchor := 0 }) i5
    have nsE : us ++ [c] ++ js = us ++ c :: js := by simp
    have T : TkC Q f2 ((27 : UInt8).toNat : Int) 2 { Q with pl := escPl Q, mode := 0, anchor := 0 } f2 := tkEU Q f2 i3 i4
    have I2 : InvP (N + 31) ⟨Q, f2, us ++ [c] ++ js, dg, x⟩ := ⟨i3, i5 ▸ GoodB.none Q, g3, ⟨(i6.trans hnow).trans hho.now, hho.z, hho.b, hho.f, Nat.le_trans hho.n qo⟩, by show (us ++ [c] ++ js).length ≤ N + 31; simp; omega, fun h => absurd i4 h, Or.inr (Or.inl ⟨i4, Or.inr (by show InsP (us ++ [c] ++ js); rw [nsE]; exact hiP js hjs)⟩), inv.d, by have h0 : dg.size ≤ N := inv.z; show dg.size ≤ N + 31; omega⟩
    have m2 : ¬ ({ Q with pl := escPl Q, mode := 0, anchor := 0 } : Pg).mode = 1 := by show ¬ (0 : Int) = 1; decide
    have ho2 : HOk { Q with pl := escPl Q, mode := 0, anchor := 0 } x (N + 31) := I2.h.of rfl
    have P2 := eEnd (T.d dg x) (show KpC (us ++ [c] ++ js) 27 Q.mode (us ++ [c] ++ js ++ [27]) by rw [i4]; exact kpIC 27 qs qs) qd m2 (escGP i3) ho2 qo
    have hd : dgE 2 (us ++ [c] ++ js ++ [27]) dg = ⟨((us ++ [c]) ++ (js ++ [27])).toArray⟩ := by
     unfold dgE
     rw [if_pos ⟨rfl, by simp; omega⟩, List.append_assoc]
    refine ⟨hv9, _, _, { Q with pl := escPl Q, mode := 0, anchor := 0 }, f2, RunP.app us [c] _ _ _ 0 0 r1 ⟨O, _, 0, P1, ⟨rfl, rfl⟩, by rw [if_neg hO]⟩, I1.more g2 (g4 ▸ GoodB.none p2) g3 g5 ln (fun h => absurd m1 h) (Or.inr (Or.inl ⟨m1, Or.inr (hiP [] qi)⟩)), m1, RunP.app js [27] _ _ _ 0 0 i1 ⟨2, _, 0, P2, ⟨rfl, rfl⟩, by decide⟩, I2.end (escGP i3) g3 hq m2 ho2 qo (fun _ _ => ?_) qs, ⟨rfl, nnow hq, rfl⟩, hd, ?_, escGP i3, g3, hq, i6.trans hnow, m2, rfl⟩
    ·rw [nsE]; exact do_insert (hiP js hjs)
    ·rw [List.append_assoc]
     exact r2 (c :: (js ++ [27])) 1 _ f2 ⟨O, p2, f2, g8, Or.inr ⟨hO, i2 [27] 1 _ f2 ⟨2, _, f2, T, Or.inr ⟨by decide, rfl, rfl, rfl⟩⟩⟩⟩
theorem dotRun {N : Nat} {s : Sg} (inv : InvP N s) (hN : N ≤ 90000) (hr : Rest s) (D : List UInt8) (hd : s.dg = ⟨D.toArray⟩) (h0 : 0 < D.length) (hl : D.length ≤ 1000) {O : Int} {p2 : Pg} {f2 : Int → Value} (R : RunT D s.p s.f O p2 f2) (hO : O = 1 ∨ O = 4) (hg : GoodP p2) (hnow : p2.now = s.p.now) (hm : ¬ p2.mode = 1) :
  ∃ s2, PrC s 46 O s2 ∧ s2.p = { p2 with now := p2.t } := by
 obtain ⟨p, f, ns, dg, x⟩ := s
 obtain ⟨m0, hn, hns⟩ := hr
 have hns : ns = [] := hns
 have hd : dg = ⟨D.toArray⟩ := hd
 subst hns
 subst hd
 have m0 : p.mode = 0 := m0
 have hn : p.none' = p := hn
 have hv : p.verb = 0 := by rw [← hn]
 have hp : p.part = 0 := by rw [← hn]
 have hd0 : isD p.n 46 = false := by unfold isD; simp
 have hho : HOk p x N := inv.h
 have T : TkD p f ⟨D.toArray⟩ x 46 O p2 f2 x := by
  intro w0 Ow b r d m a tv ns X ha ww M
  refine Calls.mono (bTake_again b r d tv ⟨D.toArray⟩ (p.w a) 46 (Mem w0 Ow b r d m (p.w a) f tv ns ⟨D.toArray⟩ x) (Mem w0 Ow b r d m (p.none'.w a) f tv ns ⟨D.toArray⟩ x) (fun O' w' => O' = O ∧ Mem w0 Ow b r d m (p2.w a) f2 tv ns ⟨D.toArray⟩ x w') ww M.bd M Mem.firm Mem.firm (fun _ h => h.rd) m0 qd ?_ ?_ ?_) ?_
  ·intro w2 M2
   refine Calls.mono (mTake_cmdB r d (p.w a) 46 3 (Mem w0 Ow b r d m (p.w a) f tv ns ⟨D.toArray⟩ x) (Mem w0 Ow b r d m (p.w a) f tv ns ⟨D.toArray⟩ x) [] w2 M2 Mem.firm Mem.firm (fun _ h => h.rd) hp hv hd0 (fun w3 M3 => Calls.mono (mCommand_dot r w3) ?_)) ?_
   ·rintro e w' ⟨rfl, hb⟩
    exact ⟨rfl, Mem.firm _ _ M3 hb, Upd.of_below hb⟩
   ·rintro e w' ⟨rfl, _, hu⟩
    exact ⟨rfl, below_of_upd hu (Nat.le_refl _) qi⟩
  ·intro w2 M2
   refine Calls.mono (mForget r d (p.w a) w2 M2.rd) ?_
   rintro e w' ⟨rfl, l, u⟩
   exact ⟨rfl, M2.step X ⟨l, M2.rg.upd u (by simp [X.ly.mr])⟩ u (by intro k hk; simp at hk; omega) rfl rfl⟩
  ·intro w2 M2
   have R2 : RunT D p.none' f O p2 f2 := by rw [hn]; exact R
   refine Calls.mono (rptU R2 h0 qo w0 Ow b r d m a tv ns x X ha w2 M2) ?_
   rintro e w' ⟨rfl, h⟩
   exact ⟨O, rfl, rfl, h⟩
  ·rintro e w' ⟨O', rfl, rfl, h⟩
   exact ⟨rfl, a, ha, h⟩
 exact ⟨_, eEnd (c := 46) (ns2 := [] ++ [46]) (N := N) T (by rw [m0]; exact kpNC 46 qi) qo hm hg (hho.of hnow) qo, rfl⟩
def vK : Nat → List UInt8
 | 0 => [100]
 | 1 => [99]
 | 2 => [62]
 | 3 => [60]
 | 4 => [103, 117]
 | 5 => [103, 85]
 | 6 => [34, 97, 100]
 | _ => [50, 99]
def yU : Nat → List UInt8
 | 4 => [105]
 | 5 => [97]
 | 6 => [50]
 | 8 => [105]
 | 9 => [105]
 | _ => []
def yC : Nat → UInt8
 | 0 => 119
 | 1 => 101
 | 2 => 98
 | 3 => 36
 | 4 => 119
 | 5 => 119
 | 6 => 108
 | 7 => 104
 | 8 => 112
 | 9 => 40
 | 10 => 48
 | _ => 125
theorem runK_app (p : Pg) (a b : List UInt8) : runK p (a ++ b) = (runK p a).bind (fun q => runK q b) := by
 induction a generalizing p with
 | nil => rfl
 | cons c cs ih =>
  show (nxt p (c.toNat : Int)).bind (fun q2 => runK q2 (cs ++ b)) = ((nxt p (c.toNat : Int)).bind (fun q2 => runK q2 cs)).bind _
  cases nxt p (c.toNat : Int) with
  | none => rfl
  | some q => exact ih q
def vV : Nat → Int
 | 0 => 100
 | 1 => 99
 | 2 => 62
 | 3 => 60
 | 4 => 117
 | 5 => 85
 | 6 => 100
 | _ => 99
theorem vV_all (j : Nat) : vV j = 100 ∨ vV j = 99 ∨ vV j = 62 ∨ vV j = 60 ∨ vV j = 117 ∨ vV j = 85 := by unfold vV; split <;> simp
theorem verbRun (p : Pg) (hn : p.none' = p) (j : Nat) (hj : j < 8) : ∃ q, runK p (vK j) = some q ∧ q.part = 0 ∧ q.behind = 0 ∧ q.verb = vV j := by
 rw [← hn]
 match j, hj with
 | 0, _ => exact ⟨_, rfl, rfl, rfl, rfl⟩
 | 1, _ => exact ⟨_, rfl, rfl, rfl, rfl⟩
 | 2, _ => exact ⟨_, rfl, rfl, rfl, rfl⟩
 | 3, _ => exact ⟨_, rfl, rfl, rfl, rfl⟩
 | 4, _ => exact ⟨_, rfl, rfl, rfl, rfl⟩
 | 5, _ => exact ⟨_, rfl, rfl, rfl, rfl⟩
 | 6, _ => exact ⟨_, rfl, rfl, rfl, rfl⟩
 | 7, _ => exact ⟨_, rfl, rfl, rfl, rfl⟩
theorem wayRun (p : Pg) (hp : p.part = 0) (hb : p.behind = 0) (hv : p.verb = 100 ∨ p.verb = 99 ∨ p.verb = 62 ∨ p.verb = 60 ∨ p.verb = 117 ∨ p.verb = 85) (i : Nat) (hi : i < 12) : ∃ q, runK p (yU i) = some q ∧ okK q ((yC i).toNat : Int) ∧ nxt q ((yC i).toNat : Int) = none ∧ q.verb = p.verb := by
 have hv0 : ¬ p.verb = 0 := by omega
 have ok : ∀ (q : Pg) (c : Int), q.verb = p.verb → ¬ c = 27 → okK q c := fun q c e hc => ⟨hc, fun h => absurd (e.symm.trans h) hv0⟩
 have one : ∀ c : UInt8, (¬ (c.toNat : Int) = 27) → isD 0 (c.toNat : Int) = false → ¬ (c.toNat : Int) = p.verb → ¬ ((c.toNat : Int) = 105 ∨ (c.toNat : Int) = 97 ∨ isFind (c.toNat : Int) = true ∨ (c.toNat : Int) = 103) → ∃ q, runK p [] = some q ∧ okK q (c.toNat : Int) ∧ nxt q (c.toNat : Int) = none ∧ q.verb = p.verb := by
  intro c h1 h2 h3 h4
  refine ⟨p, rfl, ok p _ rfl h1, ?_, rfl⟩
  unfold nxt nxtB
  rw [if_neg (fun h => h hp), if_neg hv0, hb, h2, if_neg qd, if_neg h3, if_neg h4]
 have two : ∀ (a c : UInt8), ((a.toNat : Int) = 105 ∨ (a.toNat : Int) = 97) → ¬ (c.toNat : Int) = 27 → ∃ q, runK p [a] = some q ∧ okK q (c.toNat : Int) ∧ nxt q (c.toNat : Int) = none ∧ q.verb = p.verb := by
  intro a c ha hc
  have hd : isD 0 (a.toNat : Int) = false := by unfold isD; simp; omega
  have n1 : nxt p (a.toNat : Int) = some { p with part := (a.toNat : Int) } := by
   unfold nxt nxtB
   rw [if_neg (fun h => h hp), if_neg hv0, hb, hd, if_neg qd, if_neg qo, if_pos qo]
  refine ⟨{ p with part := (a.toNat : Int) }, ?_, ok _ _ rfl hc, ?_, rfl⟩
  ·show (nxt p (a.toNat : Int)).bind (fun q2 => runK q2 []) = _
   rw [n1]; rfl
  ·unfold nxt nxtP
   rw [if_pos (by show ¬ (a.toNat : Int) = 0; omega), if_neg (by show ¬ ((a.toNat : Int) = 103 ∧ _); omega), if_neg (by show ¬ ((a.toNat : Int) = 34 ∧ _); omega)]
 have num : ∃ q, runK p [50] = some q ∧ okK q ((108 : UInt8).toNat : Int) ∧ nxt q ((108 : UInt8).toNat : Int) = none ∧ q.verb = p.verb := by
  have n1 : nxt p 50 = some { p with behind := 2 } := by
   unfold nxt
   rw [if_neg (fun h => h hp), if_neg hv0, hb]
   rfl
  refine ⟨{ p with behind := 2 }, ?_, ok _ _ rfl qd, ?_, rfl⟩
  ·show (nxt p 50).bind (fun q2 => runK q2 []) = _
   rw [n1]; rfl
  ·unfold nxt nxtB
   rw [if_neg (fun h => h hp), if_neg hv0, if_neg (by show ¬ isD 2 108 = true; decide), if_neg (by show ¬ (108 : Int) = p.verb; omega), if_neg qd]
 match i, hi with
 | 0, _ => exact one 119 qd qd (by show ¬ (119 : Int) = p.verb; omega) qd
 | 1, _ => exact one 101 qd qd (by show ¬ (101 : Int) = p.verb; omega) qd
 | 2, _ => exact one 98 qd qd (by show ¬ (98 : Int) = p.verb; omega) qd
 | 3, _ => exact one 36 qd qd (by show ¬ (36 : Int) = p.verb; omega) qd
 | 4, _ => exact two 105 119 (Or.inl rfl) qd
 | 5, _ => exact two 97 119 (Or.inr rfl) qd
 | 6, _ => exact num
 | 7, _ => exact one 104 qd qd (by show ¬ (104 : Int) = p.verb; omega) qd
 | 8, _ => exact two 105 112 (Or.inl rfl) qd
 | 9, _ => exact two 105 40 (Or.inl rfl) qd
 | 10, _ => exact one 48 qd qd (by show ¬ (48 : Int) = p.verb; omega) qd
 | 11, _ => exact one 125 qd qd (by show ¬ (125 : Int) = p.verb; omega) qd
def dK (j i : Nat) : List UInt8 := (vK j ++ yU i) ++ [yC i]
theorem doingOk (p : Pg) (hn : p.none' = p) (j i : Nat) (hj : j < 8) (hi : i < 12) : ∃ q, runK p (vK j ++ yU i) = some q ∧ okK q ((yC i).toNat : Int) ∧ nxt q ((yC i).toNat : Int) = none ∧ q.verb = vV j := by
 obtain ⟨q1, h1, h2, h3, h4⟩ := verbRun p hn j hj
 obtain ⟨q, k1, k2, k3, k4⟩ := wayRun q1 h2 h3 (by rw [h4]; exact vV_all j) i hi
 refine ⟨q, ?_, k2, k3, k4.trans h4⟩
 rw [runK_app, h1]; exact k1
theorem vK_len (j : Nat) : (vK j).length ≤ 3 := by unfold vK; split <;> decide
theorem yU_len (i : Nat) : (yU i).length ≤ 1 := by unfold yU; split <;> decide
