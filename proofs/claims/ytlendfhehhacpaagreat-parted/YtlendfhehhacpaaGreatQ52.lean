/- A part. -/
import Derived.Test.YtlendfhehhacpaaGreatQ51
set_option linter.unusedVariables false
set_option linter.unusedSimpArgs false
set_option maxRecDepth 100000
set_option maxHeartbeats 8000000
namespace Go.Proofs.YtlendfhehhacpaaGreat
open Go.RowKit Nib Tryz
structure Sg where
 p : Pg
 f : Int → Value
 ns : List UInt8
 dg : ByteArray
 x : Hst
def MemS (w0 : World) (Ow : List Nat) (b r d m : Nat) (s : Sg) (ww : World) : Prop := ∃ (a : Ptr) (tv : Value), a.1 = .map (some m) ∧ Mem w0 Ow b r d m (s.p.w a) s.f tv s.ns s.dg s.x ww
theorem MemS.firm {w0 : World} {Ow : List Nat} {b r d m : Nat} {s : Sg} : Firm (MemS w0 Ow b r d m s) := by
 rintro w w' ⟨a, tv, ha, M⟩ hb
 exact ⟨a, tv, ha, Mem.firm _ _ M hb⟩
theorem MemS.up {w0 ww : World} {Ow : List Nat} {b r d m : Nat} {s : Sg} (h : MemS w0 Ow b r d m s ww) : Upd (b :: r :: d :: m :: Ow) w0 ww := by
 obtain ⟨a, tv, ha, M⟩ := h
 exact M.up
structure InvP (N : Nat) (s : Sg) : Prop where
 g : GoodP s.p
 b : GoodB s.p
 f : GoodF s.f
 h : HOk s.p s.x N
 n : s.ns.length ≤ N
 t : ¬ s.p.mode = 1 → s.p.t = s.p.now
 y : TyOk s.p s.ns
 d : DoOk s.dg
 z : s.dg.size ≤ N
def PrC (s : Sg) (c : UInt8) (O : Int) (s2 : Sg) : Prop :=
 ∀ (w0 : World) (Ow : List Nat) (b r d m : Nat), Fix w0 Ow b r d m → ∀ ww, MemS w0 Ow b r d m s ww → Calls Tryz.prog 38 #[.pointer (some ⟨b, 0, none⟩), .int .u8 c.toNat] ww fun e w' => e = .returned (.int .i64 O) ∧ MemS w0 Ow b r d m s2 w'
def KpC (ns : List UInt8) (c : UInt8) (mode : Int) (ns2 : List UInt8) : Prop :=
 ∀ (w0 : World) (Ow : List Nat) (b r d m : Nat), Fix w0 Ow b r d m → ∀ (p : Pg) (f : Int → Value) (tv : Value) (dg : ByteArray) (x : Hst) ww, Mem w0 Ow b r d m p f tv ns dg x ww → Calls Tryz.prog 47 #[.pointer (some ⟨b, 1, none⟩), .int .u8 c.toNat, .int .i64 mode] ww fun e w' => e = .returned (.tuple #[]) ∧ ∃ tv', Mem w0 Ow b r d m p f tv' ns2 dg x w'
theorem eGo {p p2 : Pg} {f f2 : Int → Value} {ns ns2 : List UInt8} {dg : ByteArray} {x : Hst} {c : UInt8} {O : Int} (T : TkC p f c.toNat O p2 f2) (K : KpC ns c p.mode ns2) (hO : O = 0 ∨ (¬ O = 0 ∧ p2.mode = 1)) : PrC ⟨p, f, ns, dg, x⟩ c O ⟨p2, f2, ns2, dg, x⟩ := by
 rintro w0 Ow b r d m X ww ⟨a, tv, ha, M⟩
 have M : Mem w0 Ow b r d m (p.w a) f tv ns dg x ww := M
 rcases hO with hO | ⟨hO, hm⟩
 ·subst hO
  refine Calls.mono (press_go b r d (p.w a) c.toNat (Mem w0 Ow b r d m (p.w a) f tv ns dg x) (Mem w0 Ow b r d m (p2.w a) f2 tv ns dg x) (fun w' => ∃ tv', Mem w0 Ow b r d m (p2.w a) f2 tv' ns2 dg x w') ww M (fun _ h => ⟨⟨_, _, h.bd⟩, h.rd⟩) (fun _ h => ⟨_, _, h.bd⟩) (fun w2 M2 => T w0 Ow b r d m a tv ns dg x X ha w2 M2) (fun w2 M2 => K w0 Ow b r d m X _ _ _ _ _ w2 M2)) ?_
  rintro e w' ⟨rfl, tv', h⟩
  exact ⟨rfl, a, tv', ha, h⟩
 ·refine Calls.mono (press_ins b r d (p.w a) (p2.w a) c.toNat O (Mem w0 Ow b r d m (p.w a) f tv ns dg x) (Mem w0 Ow b r d m (p2.w a) f2 tv ns dg x) (fun w' => ∃ tv', Mem w0 Ow b r d m (p2.w a) f2 tv' ns2 dg x w') ww M (fun _ h => ⟨⟨_, _, h.bd⟩, h.rd⟩) (fun _ h => ⟨_, _, h.bd⟩) (fun _ h => by obtain ⟨tv', h⟩ := h; exact ⟨⟨_, _, h.bd⟩, h.rd⟩) hO hm (fun w2 M2 => T w0 Ow b r d m a tv ns dg x X ha w2 M2) (fun w2 M2 => K w0 Ow b r d m X _ _ _ _ _ w2 M2)) ?_
  rintro e w' ⟨rfl, tv', h⟩
  exact ⟨rfl, a, tv', ha, h⟩
def dgE (O : Int) (ns2 : List UInt8) (dg : ByteArray) : ByteArray := if O = 2 ∧ 0 < ns2.length then ⟨ns2.toArray⟩ else dg
theorem eEnd {p q : Pg} {f f2 : Int → Value} {ns ns2 : List UInt8} {dg : ByteArray} {x y : Hst} {c : UInt8} {O : Int} {N : Nat} (T : TkD p f dg x c.toNat O q f2 y) (K : KpC ns c p.mode ns2) (hO : ¬ O = 0) (hm : ¬ q.mode = 1) (hg : GoodP q) (ho : HOk q y N) (hN : N ≤ 100000) : PrC ⟨p, f, ns, dg, x⟩ c O ⟨{ q with now := q.t }, f2, [], dgE O ns2 dg, kpx q y⟩ := by
 rintro w0 Ow b r d m X ww ⟨a, tv, ha, M⟩
 have M : Mem w0 Ow b r d m (p.w a) f tv ns dg x ww := M
 refine Calls.mono (press_endS (σ := Unit) b r d (p.w a) c.toNat (fun _ => O) (fun _ => q.t) (Mem w0 Ow b r d m (p.w a) f tv ns dg x)
  (fun _ w2 => ∃ a2 : Ptr, a2.1 = .map (some m) ∧ Mem w0 Ow b r d m (q.w a2) f2 tv ns dg y w2)
  (fun _ w2 => ∃ a2 : Ptr, a2.1 = .map (some m) ∧ ∃ tv', Mem w0 Ow b r d m (q.w a2) f2 tv' ns2 dg y w2)
  (fun _ w2 => ∃ a2 : Ptr, a2.1 = .map (some m) ∧ Mem w0 Ow b r d m (q.w a2) f2 (.slice none 0 0) [] (dgE O ns2 dg) y w2)
  (fun _ w2 => ∃ a2 : Ptr, a2.1 = .map (some m) ∧ Mem w0 Ow b r d m (Pg.w { q with now := q.t } a2) f2 (.slice none 0 0) [] (dgE O ns2 dg) (kpx q y) w2)
  ww M (fun _ h => ⟨⟨_, _, h.bd⟩, h.rd⟩) ?_ ?_ ?_ ?_ ?_ ?_ ?_ ?_ ?_) ?_
 ·rintro s w2 ⟨a2, _, h⟩
  exact ⟨_, _, h.bd⟩
 ·rintro s w2 ⟨a2, _, tv', h⟩
  exact ⟨_, _, _, h.bd, h.rd, hm⟩
 ·rintro s w2 ⟨a2, _, h⟩
  exact ⟨_, _, _, h.bd, h.rd, rfl⟩
 ·rintro s w2 ⟨a2, _, h⟩
  exact ⟨⟨_, _, h.bd⟩, h.rd.bg.c0, h.rd.dk.c0⟩
 ·rintro s w2 ⟨a2, h1, h⟩
  exact ⟨a2, h1, Mem.firm _ _ h ((Below.refl _ _).drew)⟩
 ·intro w2 M2
  refine Calls.mono (T w0 Ow b r d m a tv ns X ha w2 M2) ?_
  rintro e w' ⟨rfl, h⟩
  exact ⟨(), rfl, hO, h⟩
 ·rintro s w2 ⟨a2, h1, h⟩
  refine Calls.mono (K w0 Ow b r d m X _ _ _ _ _ w2 h) ?_
  rintro e w' ⟨rfl, h2⟩
  exact ⟨rfl, a2, h1, h2⟩
 ·rintro s w2 ⟨a2, h1, tv', h⟩
  refine Calls.mono (en X O w2 h) ?_
  rintro e w' ⟨rfl, h2⟩
  exact ⟨rfl, a2, h1, h2⟩
 ·rintro s w2 ⟨a2, h1, h⟩
  refine Calls.mono (hk X (q.w a2) (hg.w h1) (show HOk (q.w a2) y N from ⟨ho.now, ho.z, ho.b, ho.f, ho.n⟩) hN w2 h) ?_
  rintro e w' ⟨rfl, bk, fo, _, h4⟩
  exact ⟨rfl, (a2.1, bk, fo), h1, h4⟩
 ·rintro e w' ⟨_, rfl, a2, h1, h2⟩
  exact ⟨rfl, a2, _, h1, h2⟩
theorem kpNC {ns : List UInt8} (c : UInt8) (hn : ns.length ≤ 17592186044416) : KpC ns c 0 (ns ++ [c]) := fun _ _ _ _ _ _ X _ _ _ _ _ ww M => kpN X c hn ww M
theorem kpIC {ns : List UInt8} (c : UInt8) (hn : ns.length ≤ 17592186044416) (h0 : 0 < ns.length) : KpC ns c 1 (ns ++ [c]) := fun _ _ _ _ _ _ X _ _ _ _ _ ww M => kpI X c hn h0 ww M
theorem kp0C (c : UInt8) (mode : Int) (hm : mode = 1 ∨ mode = 2 ∨ mode = 3) : KpC [] c mode [] := fun _ _ _ _ _ _ _ _ _ _ _ _ ww M => kp0 c mode hm ww M
theorem InvP.end {N : Nat} {s : Sg} (inv : InvP N s) {q : Pg} {f2 : Int → Value} {y : Hst} {O : Int} {ns2 : List UInt8} (hg : GoodP q) (hf : GoodF f2) (hn : q.none' = q) (hm : ¬ q.mode = 1) (ho : HOk q y N) (hN : N ≤ 90000) (hd : O = 2 → 0 < ns2.length → DoOk ⟨ns2.toArray⟩) (hl : ns2.length ≤ N + 1) : InvP (N + 1) ⟨{ q with now := q.t }, f2, [], dgE O ns2 s.dg, kpx q y⟩ := by
 have hq : ({ q with now := q.t } : Pg).none' = { q with now := q.t } := congrArg (fun z : Pg => { z with now := q.t }) hn
 have ho2 : HOk { q with now := q.t } (kpx q y) (N + 1) := by
  unfold kpx
  split
  ·next e => exact ⟨e.trans ho.now, ho.z, ho.b, ho.f, Nat.le_succ_of_le ho.n⟩
  ·refine ⟨rfl, hg.ts, ?_, trivial, by have := ho.n; simp; omega⟩
   have := ho.b
   rw [← ho.now] at this
   exact OkS.keep this hg.ts (by rw [ho.now]; exact ho.z)
 refine ⟨⟨hg.ts, hg.pl, hg.st, hg.an, hg.mo, hg.n, hg.bh, hg.fd⟩, hq ▸ GoodB.none _, hf, ho2, Nat.zero_le _, fun _ => rfl, ?_, ?_, ?_⟩
 ·by_cases h0 : q.mode = 0
  ·exact Or.inl ⟨h0, by rw [bg_none hq]; rfl⟩
  ·have := hg.mo
   exact Or.inr (Or.inr ⟨by show q.mode = 2 ∨ q.mode = 3; omega, rfl⟩)
 ·show DoOk (dgE O ns2 s.dg)
  unfold dgE
  split
  ·next h => exact hd h.1 h.2
  ·exact inv.d
 ·show (dgE O ns2 s.dg).size ≤ N + 1
  unfold dgE
  split
  ·show ns2.toArray.size ≤ N + 1
   simpa using hl
  ·have := inv.z; omega
theorem InvP.more {N : Nat} {s : Sg} (h : InvP N s) {p2 : Pg} {f2 : Int → Value} {ns2 : List UInt8} (hg : GoodP p2) (hb : GoodB p2) (hf : GoodF f2) (e : p2.now = s.p.now) (hn : ns2.length ≤ N + 1) (ht : ¬ p2.mode = 1 → p2.t = p2.now) (hy : TyOk p2 ns2) : InvP (N + 1) ⟨p2, f2, ns2, s.dg, s.x⟩ :=
 ⟨hg, hb, hf, ⟨e.trans h.h.now, h.h.z, h.h.b, h.h.f, Nat.le_succ_of_le h.h.n⟩, hn, ht, hy, h.d, Nat.le_succ_of_le h.z⟩
theorem pressU (HA : AnyOk) {N : Nat} (s : Sg) (c : UInt8) (inv : InvP N s) (hN : N ≤ 90000) : ∃ O s2, PrC s c O s2 ∧ InvP (N + 1) s2 := by
 obtain ⟨p, f, ns, dg, x⟩ := s
 have hn : ns.length ≤ N := inv.n
 have ln : (ns ++ [c]).length ≤ N + 1 := by simp; omega
 have fin : ∀ (O : Int) (q : Pg) (f2 : Int → Value) (y : Hst) (ns2 : List UInt8), TkD p f dg x c.toNat O q f2 y → KpC ns c p.mode ns2 → (O = 1 ∨ O = 2 ∨ O = 4) → GoodP q → GoodF f2 → q.none' = q → ¬ q.mode = 1 → HOk q y N → (O = 2 → 0 < ns2.length → DoOk ⟨ns2.toArray⟩) → ns2.length ≤ N + 1 → ∃ O s2, PrC ⟨p, f, ns, dg, x⟩ c O s2 ∧ InvP (N + 1) s2 :=
  fun O q f2 y ns2 T K hO hg hf hnn hm ho hd hl => ⟨O, _, eEnd T K qo hm hg ho qo, inv.end hg hf hnn hm ho hN hd hl⟩
 have hgo : GoodP p := inv.g
 have hho : HOk p x N := inv.h
 rcases hgo.mo with hm | hm | hm
 ·
  have hm1 : ¬ p.mode = 1 := by rw [hm]; decide
  have hr : runK bg0 ns = some (bg p) := by
   rcases inv.y with h | h | h
   ·exact h.2
   ·exact absurd h.1 hm1
   ·have h1 : p.mode = 2 ∨ p.mode = 3 := h.1; omega
  have KP : KpC ns c p.mode (ns ++ [c]) := by rw [hm]; exact kpNC c qo
  by_cases k27 : (c.toNat : Int) = 27
  ·exact fin 1 { p.none' with mode := 0, anchor := 0 } f x _ (by rw [k27]; exact (tkXU p f hgo hm1).d dg x) KP (Or.inl rfl) (escNP hgo hm1) inv.f rfl (by show ¬ (0 : Int) = 1; decide) (hho.of rfl) (fun h => absurd h qd) ln
  by_cases hx : p.verb = 0 → p.part = 0 → ¬ (c.toNat : Int) = 117 ∧ ¬ (c.toNat : Int) = 18 ∧ ¬ (c.toNat : Int) = 46
  ·rcases tkNU HA p f c hgo inv.b inv.f hm k27 hx with ⟨p2, h1, h2, h3, h4, h5⟩ | ⟨h1, O, p2, f2, g1, g2, g3, g4, g5, g6, g7, _, g8⟩
   ·obtain ⟨a1, a2, a3, a4, a5, e⟩ := h4
    have e1 : p2.mode = p.mode := by rw [e]
    have e2 : p2.t = p.t := by rw [e]
    have e3 : p2.now = p.now := by rw [e]
    exact ⟨0, _, eGo h5 KP (Or.inl rfl), inv.more h2 h3 inv.f e3 ln (fun _ => by rw [e2, e3]; exact inv.t hm1) (Or.inl ⟨e1.trans hm, by rw [runK_add, hr]; show nxt (bg p) (c.toNat : Int) = _; rw [nxt_bg, h1]; rfl⟩)⟩
   ·by_cases hp2 : p2.mode = 1
    ·have hO4 : ¬ O = 4 := fun e => hm1 (by rw [← g6 e]; exact hp2)
     exact ⟨O, _, eGo g8 KP (Or.inr ⟨by omega, hp2⟩), inv.more g2 (g4 ▸ GoodB.none p2) g3 g5 ln (fun h => absurd hp2 h) (Or.inr (Or.inl ⟨hp2, Or.inr ⟨ns, c, [], bg p, rfl, hr, ⟨k27, hx⟩, by rw [nxt_bg, h1]; rfl, (g7 hO4).1 hp2, by simp⟩⟩))⟩
    ·exact fin O p2 f2 x _ (g8.d dg x) KP g1 g2 g3 g4 hp2 (hho.of g5) (fun e _ => do_normal hr ⟨k27, hx⟩ h1 (fun hi => hp2 ((g7 qo).2 hi))) ln
  ·have hv : p.verb = 0 := by
    rcases isVb_or inv.b with h | h
    ·exact h
    ·exact absurd (fun e => absurd e (vb_flags h).2) hx
   have hp : p.part = 0 := by
    by_cases h : p.part = 0
    ·exact h
    ·exact absurd (fun _ e => absurd e h) hx
   have hk3 : (c.toNat : Int) = 117 ∨ (c.toNat : Int) = 18 ∨ (c.toNat : Int) = 46 := by
    by_cases h1 : (c.toNat : Int) = 117
    ·exact Or.inl h1
    ·by_cases h2 : (c.toNat : Int) = 18
     ·exact Or.inr (Or.inl h2)
     ·by_cases h3 : (c.toNat : Int) = 46
      ·exact Or.inr (Or.inr h3)
      ·exact absurd (fun _ _ => ⟨h1, h2, h3⟩) hx
   have hist : ∀ (t : ByteArray), t.size ≤ 1000 → GoodP (uQ p t).none' ∧ (uQ p t).none'.mode = 0 ∧ (uQ p t).none'.now = t := by
    intro t ht
    have h1 := goT_good (hgo.w (m := 0) (a := a0) rfl) hm t ht a0.2.1 a0.2.2
    have h2 := goT_t p t
    refine ⟨?_, h2.2.1.trans hm, rfl⟩
    have h3 : GoodP ({ goT (p.w a0) t with now := t, back := a0.2.1, forth := a0.2.2 } : Pg) := h1.p
    have h4 : ({ goT (p.w a0) t with now := t, back := a0.2.1, forth := a0.2.2 } : Pg) = (uQ p t).w a0 := by
     unfold uQ goT
     show ({ (if t = p.t then p.w a0 else _) with now := t, back := a0.2.1, forth := a0.2.2 } : Pg) = Pg.w { (if t = p.t then p else _) with now := t } a0
     split <;> rfl
    rw [h4] at h3
    exact h3.unw.forget
   rcases hk3 with hk | hk | hk
   ·have hle : min (max (cnt p) 1) x.2.1.length ≤ x.2.1.length := by omega
    have y1 := wlkN_ok x hho.z hho.b _ hle
    have y2 := wlkN_forth x hho.z hho.b hho.f _ hle
    have y3 := wlkN_len x _ hle
    obtain ⟨q1, q2, q3⟩ := hist _ y1.1
    refine fin (if x.2.1.length = 0 then 4 else 1) _ f _ _ (by rw [hk]; exact tkUU p f dg x N hgo hm hv hp (inv.t hm1) hho qo) KP (by split <;> simp) q1 inv.f rfl (by rw [q2]; decide) ⟨q3, y1.1, y1.2, y2, by have := hho.n; omega⟩ (fun e => ?_) ln
    split at e <;> simp at e
   ·have hsw : x = swp (swp x) := (swp_swp x).symm
    have hz : (swp x).1.size ≤ 1000 := hho.z
    have hb1 : OkS (swp x).1 (swp x).2.1 := hho.f
    have hb2 : OkS (swp x).1 (swp x).2.2.reverse := by have := hho.b; simpa [swp] using this
    have hle : min (max (cnt p) 1) (swp x).2.1.length ≤ (swp x).2.1.length := by omega
    have y1 := wlkN_ok (swp x) hz hb1 _ hle
    have y2 := wlkN_forth (swp x) hz hb1 hb2 _ hle
    have y3 := wlkN_len (swp x) _ hle
    have y4 : (swp x).2.1.length = x.2.2.length ∧ (swp x).2.2.length = x.2.1.length := by simp [swp]
    obtain ⟨q1, q2, q3⟩ := hist _ y1.1
    have T := tkRU p f dg (swp x) N hgo hm hv hp (inv.t hm1) (by rw [swp_swp]; exact hho) qo
    rw [swp_swp, ← hk] at T
    refine fin _ _ f _ _ T KP (by split <;> simp) q1 inv.f rfl (by rw [q2]; decide) ⟨q3, y1.1, y2, by have := y1.2; simpa [swp] using this, by have := hho.n; simp [swp] at *; omega⟩ (fun e => ?_) ln
    split at e <;> simp at e
   ·obtain ⟨O, p2, f2, h1, h2, h3, h4, h5, h6, _, _, T⟩ := tkDU HA p f dg x hgo inv.f hm hv hp inv.d (by have := inv.z; show dg.size ≤ _; have h0 : dg.size ≤ N := inv.z; omega)
    rw [← hk] at T
    exact fin O p2 f2 x _ T KP qo h2 h3 h4 h6 (hho.of h5) (fun e => by omega) ln
 ·
  have hy : ns = [] ∨ InsP ns := by
   rcases inv.y with h | h | h
   ·have h1 : p.mode = 0 := h.1; omega
   ·exact h.2
   ·have h1 : p.mode = 2 ∨ p.mode = 3 := h.1; omega
  have KP : ∃ ns2 : List UInt8, ns2.length ≤ N + 1 ∧ ((ns2 = [] ∧ ns = []) ∨ (InsP ns ∧ ns2 = ns ++ [c])) ∧ KpC ns c p.mode ns2 := by
   rcases hy with h | h
   ·refine ⟨[], Nat.zero_le _, Or.inl ⟨rfl, h⟩, ?_⟩
    rw [h]
    exact kp0C c p.mode (Or.inl hm)
   ·refine ⟨ns ++ [c], ln, Or.inr ⟨h, rfl⟩, ?_⟩
    rw [hm]
    have h0 : 0 < ns.length := by
     obtain ⟨us, k, js, q, e, _⟩ := h
     rw [e]; simp; omega
    exact kpIC c qo h0
  obtain ⟨ns2, l2, hs2, KP⟩ := KP
  by_cases k27 : (c.toNat : Int) = 27
  ·have hc : c = 27 := by
    apply UInt8.toNat_inj.1
    show c.toNat = 27
    omega
   obtain ⟨z1, z2, z3, z4, z5⟩ := inv.b.ins hm
   have hnn : ({ p with pl := escPl p, mode := 0, anchor := 0 } : Pg).none' = { p with pl := escPl p, mode := 0, anchor := 0 } := by
    show ({ p with pl := escPl p, mode := 0, anchor := 0, reg := 0, n := 0, verb := 0, behind := 0, part := 0 } : Pg) = _
    rw [show p.reg = 0 from z5, show p.n = 0 from z1, show p.verb = 0 from z2, show p.behind = 0 from z3, show p.part = 0 from z4]
   refine fin 2 { p with pl := escPl p, mode := 0, anchor := 0 } f x ns2 (by rw [k27]; exact (tkEU p f hgo hm).d dg x) KP (Or.inr (Or.inl rfl)) (escGP hgo) inv.f hnn (by show ¬ (0 : Int) = 1; decide) (hho.of rfl) (fun _ h0 => ?_) l2
   rcases hs2 with ⟨e, _⟩ | ⟨h2, e⟩
   ·rw [e] at h0; simp at h0
   ·rw [e, hc]; exact do_insert h2
  ·obtain ⟨a1, a2, a3, a4⟩ := insP_all p c
   have hm2 : ((insP p c).none').mode = 1 := a4.trans hm
   refine ⟨1, _, eGo (tkIU p f c hgo hm k27) KP (Or.inr ⟨by decide, hm2⟩), inv.more (insP_goodP c hgo hm).forget (GoodB.none _) inv.f a1 l2 (fun h => absurd hm2 h) (Or.inr (Or.inl ⟨hm2, ?_⟩))⟩
   rcases hs2 with ⟨e, _⟩ | ⟨⟨us, k, js, q, b1, b2, b3, b4, b5, b6⟩, e⟩
   ·exact Or.inl e
   ·refine Or.inr ⟨us, k, js ++ [c], q, by rw [e, b1]; simp, b2, b3, b4, b5, ?_⟩
    intro j hj
    rcases List.mem_append.1 hj with h | h
    ·exact b6 j h
    ·simp at h; rw [h]; exact k27
 ·
  have hm1 : ¬ p.mode = 1 := by omega
  have hns : ns = [] := by
   rcases inv.y with h | h | h
   ·have h1 : p.mode = 0 := h.1; omega
   ·exact absurd h.1 hm1
   ·exact h.2
  subst hns
  have KP : KpC [] c p.mode [] := kp0C c p.mode (Or.inr hm)
  by_cases k27 : (c.toNat : Int) = 27
  ·exact fin 1 { p.none' with mode := 0, anchor := 0 } f x [] (by rw [k27]; exact (tkXU p f hgo hm1).d dg x) KP (Or.inl rfl) (escNP hgo hm1) inv.f rfl (by show ¬ (0 : Int) = 1; decide) (hho.of rfl) (fun h => absurd h qd) (Nat.zero_le _)
  ·rcases tkMU HA p f c.toNat hgo inv.b inv.f hm k27 with ⟨p2, h1, h2, h3, h4, h5⟩ | ⟨h1, O, p2, f2, g1, g2, g3, g4, g5, g6, g7, _, g8⟩
   ·obtain ⟨a1, a2, a3, a4, a5, e⟩ := h4
    have e1 : p2.mode = p.mode := by rw [e]
    have e2 : p2.t = p.t := by rw [e]
    have e3 : p2.now = p.now := by rw [e]
    exact ⟨0, _, eGo h5 KP (Or.inl rfl), inv.more h2 h3 inv.f e3 (Nat.zero_le _) (fun _ => by rw [e2, e3]; exact inv.t hm1) (Or.inr (Or.inr ⟨by rw [e1]; exact hm, rfl⟩))⟩
   ·by_cases hp2 : p2.mode = 1
    ·exact ⟨O, _, eGo g8 KP (Or.inr ⟨by omega, hp2⟩), inv.more g2 (g4 ▸ GoodB.none p2) g3 g5 (Nat.zero_le _) (fun h => absurd hp2 h) (Or.inr (Or.inl ⟨hp2, Or.inl rfl⟩))⟩
    ·exact fin O p2 f2 x [] (g8.d dg x) KP g1 g2 g3 g4 hp2 (hho.of g5) (fun _ h0 => by simp at h0) (Nat.zero_le _)
theorem eql_stateK (s : ByteArray) (a b c : Int) (d : Bool) (w : World) : (binOp .eql 32 (.agg #[.string s, .int .i64 a, .int .i64 b, .int .i64 c, .bool d]) (.agg #[.string s, .int .i64 a, .int .i64 b, .int .i64 c, .bool d])).run Tryz.prog w = .ok (.bool true) w := by
 have e : binOp .eql 32 (.agg #[.string s, .int .i64 a, .int .i64 b, .int .i64 c, .bool d]) (.agg #[.string s, .int .i64 a, .int .i64 b, .int .i64 c, .bool d]) = (do pure (.bool (← Op.equal 32 (.agg #[.string s, .int .i64 a, .int .i64 b, .int .i64 c, .bool d]) (.agg #[.string s, .int .i64 a, .int .i64 b, .int .i64 c, .bool d])))) := rfl
 rw [e]
 simp only [Sem.run_bind, eq_stateK, Result.andThen_ok]
 rfl
def RunP : List UInt8 → Sg → Nat → Sg → Prop
 | [], s, n, s2 => n = 0 ∧ s2 = s
 | c :: cs, s, n, s2 => ∃ (O : Int) (s1 : Sg) (n1 : Nat), PrC s c O s1 ∧ RunP cs s1 n1 s2 ∧ n = (if O = 4 then 1 else 0) + n1
theorem RunP.ex (HA : AnyOk) : ∀ (ks : List UInt8) (N : Nat) (s : Sg), InvP N s → N + ks.length ≤ 90000 → ∃ n s2, RunP ks s n s2 ∧ InvP (N + ks.length) s2 := by
 intro ks
 induction ks with
 | nil => intro N s inv _; exact ⟨0, s, ⟨rfl, rfl⟩, inv⟩
 | cons c cs ih =>
  intro N s inv hN
  simp only [List.length_cons] at hN
  obtain ⟨O, s1, h1, i1⟩ := pressU HA s c inv qo
  obtain ⟨n, s2, h2, i2⟩ := ih (N + 1) s1 i1 qo
  refine ⟨_, s2, ⟨O, s1, n, h1, h2, rfl⟩, ?_⟩
  rw [List.length_cons, show N + (cs.length + 1) = N + 1 + cs.length by omega]
  exact i2
theorem RunP.split : ∀ (a b : List UInt8) (s : Sg) (n : Nat) (s2 : Sg), RunP (a ++ b) s n s2 → ∃ n1 s1 n2, RunP a s n1 s1 ∧ RunP b s1 n2 s2 ∧ n = n1 + n2 := by
 intro a
 induction a with
 | nil => intro b s n s2 h; exact ⟨0, s, n, ⟨rfl, rfl⟩, h, by omega⟩
 | cons c cs ih =>
  rintro b s n s2 ⟨O, s1, n1, h1, h2, h3⟩
  obtain ⟨m1, t1, m2, k1, k2, k3⟩ := ih b s1 n1 s2 h2
  exact ⟨_, t1, m2, ⟨O, s1, m1, h1, k1, rfl⟩, k2, by omega⟩
theorem RunP.len : ∀ (ks : List UInt8) (s : Sg) (n : Nat) (s2 : Sg), RunP ks s n s2 → n ≤ ks.length := by
 intro ks
 induction ks with
 | nil => rintro s n s2 ⟨rfl, _⟩; exact Nat.le_refl _
 | cons c cs ih =>
  rintro s n s2 ⟨O, s1, n1, _, h2, h3⟩
  have := ih s1 n1 s2 h2
  simp only [List.length_cons]
  split at h3 <;> omega
theorem runType {ks : List UInt8} {s s2 : Sg} {n : Nat} (hR : RunP ks s n s2) (hz : ks.length ≤ 17592186044416) {w0 : World} {Ow : List Nat} {b r d m q : Nat} (X : Fix w0 Ow b r d m) (ww : World) (hq : ww.cell? ⟨q, 0, none⟩ = some (.pointer (some ⟨b, 0, none⟩))) (M : MemS w0 Ow b r d m s ww) :
  Calls Tryz.prog 17 #[.pointer (some ⟨q, 0, none⟩), .string ⟨ks.toArray⟩] ww fun e w' => e = .returned (.int .i64 (n : Nat)) ∧ MemS w0 Ow b r d m s2 w' := by
 have hsz : (⟨ks.toArray⟩ : ByteArray).size = ks.length := rfl
 refine Calls.mono (nTypeY q b ⟨ks.toArray⟩ ww (fun n' w' => n' = n ∧ MemS w0 Ow b r d m s2 w') hq ?_) ?_
 ·rintro v rfl
  refine Calls.mono (bType_cnt b ⟨ks.toArray⟩ (fun k n' ww => ∃ sk nk, RunP (ks.drop k) sk nk s2 ∧ n' + nk = n ∧ MemS w0 Ow b r d m sk ww) v ⟨s, n, hR, by omega, M⟩ qo ?_) ?_
  ·rintro k n' hk w1 ⟨sk, nk, hR2, e, M2⟩
   have hk2 : k < ks.length := by omega
   rw [List.drop_eq_getElem_cons hk2] at hR2
   obtain ⟨O, s1, n1, h1, h2, h3⟩ := hR2
   have hc : (⟨ks.toArray⟩ : ByteArray)[k]'hk = ks[k]'hk2 := rfl
   rw [hc]
   refine Calls.mono (h1 w0 Ow b r d m X w1 M2) ?_
   rintro e w' ⟨rfl, M3⟩
   refine ⟨O, rfl, fun h => ⟨s1, n1, h2, ?_, M3⟩, fun h => ⟨s1, n1, h2, ?_, M3⟩⟩
   ·rw [if_pos h] at h3; omega
   ·rw [if_neg h] at h3; omega
  ·rintro e w' ⟨n', rfl, sk, nk, hR2, e, M2⟩
   rw [hsz, List.drop_length] at hR2
   obtain ⟨e1, e2⟩ := hR2
   refine ⟨n', rfl, by omega, ?_⟩
   rw [e2]
   exact M2
 ·rintro e w' ⟨n', rfl, rfl, h⟩
  exact ⟨rfl, h⟩
def sg0 (t : ByteArray) : Sg := ⟨newPg t 0, f0, [], ⟨#[]⟩, (t, [], [])⟩
theorem sg0_inv (t : ByteArray) (ht : t.size ≤ 1000) : InvP 0 (sg0 t) :=
 ⟨⟨ht, Nat.zero_le _, fun _ => zero_settled _, fun _ => Nat.zero_le _, Or.inl rfl, Nat.zero_le _, Nat.zero_le _, Or.inl rfl⟩, ⟨Or.inl rfl, Or.inl rfl, fun h => absurd h (by show ¬ (0 : Int) = 1; decide)⟩, fun c => ⟨⟨#[]⟩, false, rfl, by decide⟩, ⟨rfl, ht, trivial, trivial, Nat.le_refl _⟩, Nat.le_refl _, fun _ => rfl, Or.inl ⟨rfl, rfl⟩, Or.inl rfl, Nat.le_refl _⟩
theorem New7.mems {w W : World} {q b r d m : Nat} {t : ByteArray} (N : New7 w W q b r d m t) : Fix W [] b r d m ∧ MemS W [] b r d m (sg0 t) W := by
 refine ⟨⟨N.ly, N.rd.ne, N.bd.lt, N.rd.bg.lt, N.rd.dk.lt, N.rg.lt, fun k hk => by simp at hk⟩, (.map (some m), .slice none 0 0, .slice none 0 0), .slice none 0 0, rfl, ?_⟩
 exact ⟨N.bd, N.rd, N.rg, World.ownsRow_nil _ _ _ _, World.ownsRow_nil _ _ _ _, World.ownsRow_nil _ _ _ _, (fun k hk => by simp [Value.ownBlock] at hk), (fun k hk => by simp [Value.ownBlock] at hk), (fun k hk => by simp [Value.ownBlock] at hk), (fun k hk => by simp [Value.ownBlock] at hk), (fun k hk => by simp [Value.ownBlock] at hk), (fun k hk => by simp [Value.ownBlock] at hk), Upd.refl _ _⟩
theorem MemS.rebase {w0 ww v : World} {Ow : List Nat} {b r d m : Nat} {s : Sg} (X : Fix w0 Ow b r d m) (h : MemS w0 Ow b r d m s ww) (hb : Below ww.heap.size ww v) :
  ∃ O2, (∀ k, k ∈ O2 → k < ww.heap.size ∧ Free w0 Ow b r d m k) ∧ Fix v O2 b r d m ∧ MemS v O2 b r d m s v := by
 obtain ⟨a, tv, ha, M⟩ := h
 have M2 := Mem.firm _ _ M hb
 have z0 := M.up.size
 have z1 := hb.size
 have mem : ∀ k, k ∈ own tv ++ (own a.2.1 ++ own a.2.2) → k < ww.heap.size ∧ Free w0 Ow b r d m k := by
  intro k hk
  rcases List.mem_append.1 hk with h | h
  ·exact ⟨(M.ty.lt k (mem_own.1 h)).2, M.tl k (mem_own.1 h)⟩
  ·rcases List.mem_append.1 h with h | h
   ·exact ⟨(M.bk.lt k (mem_own.1 h)).2, M.bl k (mem_own.1 h)⟩
   ·exact ⟨(M.fo.lt k (mem_own.1 h)).2, M.fl k (mem_own.1 h)⟩
 refine ⟨own tv ++ (own a.2.1 ++ own a.2.2), mem, ⟨X.ly, X.rd, ?_, ?_, ?_, ?_, fun k hk => (mem k hk).2.1⟩, a, tv, ha, ⟨M2.bd, M2.rd, M2.rg, M2.ty, M2.bk, M2.fo, ?_, ?_, ?_, M2.tb, M2.tf, M2.bf, Upd.refl _ _⟩⟩
 ·have := X.lb; omega
 ·have := X.lr; omega
 ·have := X.ld; omega
 ·have := X.lm; omega
 ·intro k hk; exact ⟨(M.tl k hk).1, Or.inl (by simp [mem_own.2 hk])⟩
 ·intro k hk; exact ⟨(M.bl k hk).1, Or.inl (by simp [mem_own.2 hk])⟩
 ·intro k hk; exact ⟨(M.fl k hk).1, Or.inl (by simp [mem_own.2 hk])⟩
theorem MemS.apart {v w' : World} {Ow S : List Nat} {b r d m : Nat} {s : Sg} (X : Fix v Ow b r d m) (h : MemS v Ow b r d m s v) (hu : Upd S v w') (hd : ∀ k, k ∈ S → k ∉ b :: r :: d :: m :: Ow) : Fix w' Ow b r d m ∧ MemS w' Ow b r d m s w' := by
 obtain ⟨a, tv, ha, M⟩ := h
 have z0 := hu.size
 have nb : b ∉ S := fun h => hd b h qi
 have nr : r ∉ S := fun h => hd r h qi
 have nd : d ∉ S := fun h => hd d h qi
 have nm : m ∉ S := fun h => hd m h qi
 have row : ∀ k, k < v.heap.size → Free v Ow b r d m k → k ∉ S := by
  intro k hk hf h
  rcases hf.2 with h2 | h2
  ·exact hd k h (by simp [h2])
  ·omega
 refine ⟨⟨X.ly, X.rd, by have := X.lb; omega, by have := X.lr; omega, by have := X.ld; omega, by have := X.lm; omega, X.nw⟩, a, tv, ha, M.bd.upd hu nb, M.rd.upd hu nr nd, M.rg.upd hu nm, ownsRow_upd M.ty hu ?_, ownsRow_upd M.bk hu ?_, ownsRow_upd M.fo hu ?_, ?_, ?_, ?_, M.tb, M.tf, M.bf, Upd.refl _ _⟩
 ·intro k hk e; exact row k (M.ty.lt k e).2 (M.tl k e) hk
 ·intro k hk e; exact row k (M.bk.lt k e).2 (M.bl k e) hk
 ·intro k hk e; exact row k (M.fo.lt k e).2 (M.fl k e) hk
 ·intro k e
  have h1 := (M.ty.lt k e).2
  have h2 := M.tl k e
  exact ⟨h2.1, Or.inl (h2.2.resolve_right qo)⟩
 ·intro k e
  have h1 := (M.bk.lt k e).2
  have h2 := M.bl k e
  exact ⟨h2.1, Or.inl (h2.2.resolve_right qo)⟩
 ·intro k e
  have h1 := (M.fo.lt k e).2
  have h2 := M.fl k e
  exact ⟨h2.1, Or.inl (h2.2.resolve_right qo)⟩
theorem MemS.state {w0 ww : World} {Ow : List Nat} {b r d m q : Nat} {s : Sg} (h : MemS w0 Ow b r d m s ww) (hq : ww.cell? ⟨q, 0, none⟩ = some (.pointer (some ⟨b, 0, none⟩))) :
  qC 18 #[.pointer (some ⟨q, 0, none⟩)] ww (.agg #[.string s.p.t, .int .i64 (s.p.pl : Nat), .int .i64 (s.p.anchor : Nat), .int .i64 s.p.mode, .bool (waits s.p)]) := by
 obtain ⟨a, tv, ha, M⟩ := h
 exact nState q b r d tv s.dg (s.p.w a) ww hq M.bd M.rd
theorem MemS.reg {w0 ww : World} {Ow : List Nat} {b r d m q : Nat} {s : Sg} {c : Int} {t : ByteArray} {l : Bool} (h : MemS w0 Ow b r d m s ww) (hq : ww.cell? ⟨q, 0, none⟩ = some (.pointer (some ⟨b, 0, none⟩))) (hf : s.f c = .agg #[.string t, .bool l]) :
  qC 20 #[.pointer (some ⟨q, 0, none⟩), .int .u8 c] ww (.tuple #[.string t, .bool l]) := by
 obtain ⟨a, tv, ha, M⟩ := h
 exact nRegister_at q b r d m tv s.dg (s.p.w a) c s.f t l ww hq M.bd M.rd ha M.rg hf
