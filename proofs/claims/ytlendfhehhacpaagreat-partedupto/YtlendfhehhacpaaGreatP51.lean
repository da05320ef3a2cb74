/- A part. -/
import Derived.Test.YtlendfhehhacpaaGreatP50
set_option linter.unusedVariables false
set_option linter.unusedSimpArgs false
set_option maxRecDepth 100000
set_option maxHeartbeats 8000000
namespace Go.Proofs.YtlendfhehhacpaaGreat
open Go.RowKit
def DoOk (dg : ByteArray) : Prop := dg = ⟨#[]⟩ ∨ ∃ ks : List UInt8, dg = ⟨ks.toArray⟩ ∧ 0 < ks.length ∧ ∀ p : Pg, p.mode = 0 → p.none' = p → Ph p ks
def swp (x : Hst) : Hst := (x.1, x.2.2.reverse, x.2.1.reverse)
theorem swp_swp (x : Hst) : swp (swp x) = x := by unfold swp; simp
theorem tkRe {w0 : World} {Ow : List Nat} {b r d m : Nat} (X : Fix w0 Ow b r d m) (p : Pg) (f : Int → Value) (tv : Value) (ns : List UInt8) (dg : ByteArray) (z : Hst) (N : Nat) (hg : GoodC m p) (hm : p.mode = 0) (hv : p.verb = 0) (hp : p.part = 0) (ht : p.t = p.now) (ho : HOk p (swp z) N) (hN : N ≤ 100000) :
  ∀ ww, Mem w0 Ow b r d m p f tv ns dg (swp z) ww → Calls Tryz.prog 46 #[.pointer (some ⟨b, 0, none⟩), .int .u8 18] ww fun e w' => e = .returned (.int .i64 (if z.2.1.length = 0 then 4 else 1)) ∧ WentN w0 Ow b r d m f tv ns dg (uQ p (wlkN (min (max (cnt p) 1) z.2.1.length) z).1).none' (swp (wlkN (min (max (cnt p) 1) z.2.1.length) z)) N w' := by
 intro ww M
 have hd0 : Nib.isD p.n 18 = false := by unfold Nib.isD; simp
 have lb := X.lb; have lr := X.lr; have ld := X.ld; have lm := X.lm
 have ho1 : OkS z.1 z.2.1 := by have := ho.f; simpa [swp] using this
 have ho2 : OkS z.1 z.2.2.reverse := ho.b
 have ho3 : z.2.1.length + z.2.2.length ≤ N := by have := ho.n; simp [swp] at this; omega
 have hoz : z.1.size ≤ 1000 := ho.z
 have hon : p.now = z.1 := ho.now
 have FO : ∀ {w2 : World}, Mem w0 Ow b r d m p f tv ns dg (swp z) w2 → w2.ownsRow 0 130 3 p.forth z.2.1.length (celS z.2.1.reverse) := fun M => by have := M.fo; simpa [swp] using this
 have BK : ∀ {w2 : World}, Mem w0 Ow b r d m p f tv ns dg (swp z) w2 → w2.ownsRow 0 130 3 p.back z.2.2.length (celS z.2.2) := fun M => by have := M.bk; simpa [swp] using this
 by_cases h0 : z.2.1.length = 0
 ·have hb : ∃ a cap, p.forth = .slice a 0 cap := by
   have := FO M
   rw [h0] at this
   rcases this.2 with ⟨e, _⟩ | ⟨g, cap, cur, e, _⟩
   ·exact ⟨_, _, e⟩
   ·exact ⟨_, _, e⟩
  obtain ⟨a, cap, hb⟩ := hb
  refine Calls.mono (tkH X p f tv ns dg p (swp z) (swp z) N 18 4 [] hm hv hp qd hd0 (Or.inr rfl) qi (fun w2 M2 => Calls.mono (mCommand_redo_no r d p a cap w2 M2.rd hb hg.n hg.bh) ?_) ww M) ?_
  ·rintro e w' ⟨rfl, hbl⟩
   exact ⟨rfl, ⟨p, ⟨p.back, p.forth, rfl⟩, hg, hm, ht, ho, Mem.firm _ _ M2 hbl⟩, Upd.of_below hbl⟩
  ·rintro e w' ⟨rfl, h⟩
   refine ⟨by rw [if_pos h0], ?_⟩
   rw [h0, Nat.min_zero]
   show WentN w0 Ow b r d m f tv ns dg (uQ p z.1).none' (swp z) N w'
   rw [uQ_same (ht.trans hon) hon]
   exact h
 ·obtain ⟨g, cap, hb, _⟩ := owned_some (FO M) qo
  have hbo : p.forth.ownBlock = some g := by rw [hb]; rfl
  have hpp : ({ p with now := z.1, back := p.back, forth := .slice (some ⟨g, 0, none⟩) z.2.1.length cap } : Pg) = p := by rw [← hon, ← hb]
  refine Calls.mono (tkH X p f tv ns dg (uQ p (wlkN (min (max (cnt p) 1) z.2.1.length) z).1) (swp z) (swp (wlkN (min (max (cnt p) 1) z.2.1.length) z)) N 18 1 (d :: own p.back) hm hv hp qd hd0 (Or.inl rfl) ?_ (fun w2 M2 => ?_) ww M) ?_
  ·intro hk
   rcases List.mem_cons.1 hk with e | e
   ·exact X.ly.bd e
   ·have := (M.bl b (mem_own.1 e)).1; omega
  ·have hgl := (M2.fo.lt g hbo).2
   have hw0 := M2.up.size
   have hg0 := M2.fl g hbo
   have hg1 := hg0.1
   have HS : HfAt w2 w2 r d g cap p z p.back := ⟨by rw [hpp]; exact M2.rd, by rw [← hb]; exact FO M2, BK M2, by omega, by omega, fun e => by have := (M2.bl d e).1; omega, fun e => by have := (M2.bl r e).1; omega, fun e => M2.bf g e hbo, hgl, Or.inl rfl, Upd.refl _ _⟩
   refine Calls.mono (mCommand_redo r d g cap p z w2 HS qo hoz ho1 qo hg.ts hg.n hg.bh) ?_
   have hle : min (max (cnt p) 1) z.2.1.length ≤ z.2.1.length := by omega
   have y1 := wlkN_ok z hoz ho1 _ hle
   have y2 := wlkN_forth z hoz ho1 ho2 _ hle
   have y3 := wlkN_len z _ hle
   generalize wlkN (min (max (cnt p) 1) z.2.1.length) z = y at *
   rintro e w' ⟨rfl, ov, S⟩
   obtain ⟨t1, t2, t3, t4⟩ := goT_t p y.1
   have hup : Upd (d :: own p.back) w2 w' := by have := S.up; rw [t4] at this; exact this
   have hfr : p.back.ownBlock = ov.ownBlock ∨ ∀ k, ov.ownBlock = some k → w2.heap.size ≤ k := by have := S.fr; rw [t4] at this; exact this
   refine ⟨rfl, ⟨{ goT p y.1 with now := y.1, back := ov, forth := .slice (some ⟨g, 0, none⟩) y.2.1.length cap }, ⟨_, _, rfl⟩, goT_good hg hm y.1 y1.1 _ _, t2.trans hm, t1, ⟨rfl, y1.1, y2, by have := y1.2; simpa [swp] using this, by simp [swp]; omega⟩, ?_⟩, hup⟩
   have nb : ∀ k, (k = b ∨ k = r ∨ k = d ∨ k = m) → ¬ k = d → k ∉ d :: own p.back := by
    intro k hz hzd hk
    rcases List.mem_cons.1 hk with e | e
    ·exact hzd e
    ·have := (M2.bl k (mem_own.1 e)).1; omega
   refine ⟨M2.bd.upd hup (nb b qi X.ly.bd), S.rd, M2.rg.upd hup (nb m qi X.ly.md), ownsRow_upd M2.ty hup ?_, by have := S.of; simpa [swp] using this, by have := S.ob; simpa [swp] using this, M2.tl, ?_, ?_, ?_, ?_, ?_, updMore M2.up hup ?_⟩
   ·intro k hk e
    rcases List.mem_cons.1 hk with e2 | e2
    ·have := (M2.tl k e).1; omega
    ·exact M2.tb k e (mem_own.1 e2)
   ·intro k hk
    have hk' : ov.ownBlock = some k := hk
    rcases hfr with e | e
    ·exact M2.bl k (by rw [e]; exact hk')
    ·exact X.fresh (by have := e k hk'; omega)
   ·intro k hk
    have : g = k := by simpa [Value.ownBlock] using hk
    subst this
    exact hg0
   ·intro k hk e
    have hk' : ov.ownBlock = some k := e
    rcases hfr with e2 | e2
    ·exact M2.tb k hk (by rw [e2]; exact hk')
    ·have := e2 k hk'; have := (M2.ty.lt k hk).2; omega
   ·intro k hk e
    have : g = k := by simpa [Value.ownBlock] using e
    subst this
    exact M2.tf g hk hbo
   ·intro k hk e
    have hk' : ov.ownBlock = some k := hk
    have : g = k := by simpa [Value.ownBlock] using e
    subst this
    exact S.og hk'
   ·intro k hz
    rcases List.mem_cons.1 hz with e | e
    ·left; simp [e]
    ·exact (M2.bl k (mem_own.1 e)).in
  ·rintro e w' ⟨rfl, h⟩
   exact ⟨by rw [if_neg h0], h⟩
theorem Mem.keep {w0 : World} {Ow : List Nat} {b r d m : Nat} {p : Pg} {f : Int → Value} {tv tv' : Value} {ns : List UInt8} {dg : ByteArray} {x : Hst} {ww w' : World} {c : UInt8} (M : Mem w0 Ow b r d m p f tv ns dg x ww) (X : Fix w0 Ow b r d m) (hb : BdAt w' b r d tv' dg)
  (ho : w'.ownsRow 0 5 1 tv' (ns.length + 1) (ns.map (fun c => .int .u8 (c.toNat : Int)) ++ [.int .u8 (c.toNat : Int)])) (hf : tv'.ownBlock = tv.ownBlock ∨ ∃ g, tv'.ownBlock = some g ∧ ww.heap.size ≤ g) (hu : Upd (b :: own tv) ww w') : Mem w0 Ow b r d m p f tv' (ns ++ [c]) dg x w' := by
 have lb := X.lb; have lr := X.lr; have ld := X.ld; have lm := X.lm
 have hw0 := M.up.size
 have nb : ∀ k, (k = b ∨ k = r ∨ k = d ∨ k = m) → ¬ k = b → k ∉ b :: own tv := by
  intro k hz hzd hk
  rcases List.mem_cons.1 hk with e | e
  ·exact hzd e
  ·have := (M.tl k (mem_own.1 e)).1; omega
 refine ⟨hb, M.rd.upd hu (nb r qi X.ly.br.symm) (nb d qi X.ly.bd.symm), M.rg.upd hu (nb m qi X.ly.mb), by simpa using ho, ownsRow_upd M.bk hu ?_, ownsRow_upd M.fo hu ?_, ?_, M.bl, M.fl, ?_, ?_, M.bf, updMore M.up hu ?_⟩
 ·intro k hk e
  rcases List.mem_cons.1 hk with e2 | e2
  ·have := (M.bl k e).1; omega
  ·exact M.tb k (mem_own.1 e2) e
 ·intro k hk e
  rcases List.mem_cons.1 hk with e2 | e2
  ·have := (M.fl k e).1; omega
  ·exact M.tf k (mem_own.1 e2) e
 ·intro k hk
  rcases hf with e | ⟨g, e1, e2⟩
  ·exact M.tl k (by rw [← e]; exact hk)
  ·rw [e1] at hk; injection hk with hk; exact X.fresh qo
 ·intro k hk e
  rcases hf with e2 | ⟨g, e1, e2⟩
  ·exact M.tb k (by rw [← e2]; exact hk) e
  ·rw [e1] at hk; injection hk with hk; have := (M.bk.lt k e).2; omega
 ·intro k hk e
  rcases hf with e2 | ⟨g, e1, e2⟩
  ·exact M.tf k (by rw [← e2]; exact hk) e
  ·rw [e1] at hk; injection hk with hk; have := (M.fo.lt k e).2; omega
 ·intro k hk
  rcases List.mem_cons.1 hk with e | e
  ·left; simp [e]
  ·exact (M.tl k (mem_own.1 e)).in
theorem kpN {w0 : World} {Ow : List Nat} {b r d m : Nat} (X : Fix w0 Ow b r d m) {p : Pg} {f : Int → Value} {tv : Value} {ns : List UInt8} {dg : ByteArray} {x : Hst} (c : UInt8) (hn : ns.length ≤ 17592186044416) :
  ∀ ww, Mem w0 Ow b r d m p f tv ns dg x ww → Calls Tryz.prog 47 #[.pointer (some ⟨b, 1, none⟩), .int .u8 c.toNat, .int .i64 0] ww fun e w' => e = .returned (.tuple #[]) ∧ ∃ tv', Mem w0 Ow b r d m p f tv' (ns ++ [c]) dg x w' := by
 intro ww M
 refine Calls.mono (mKeep_normal b r d tv dg c.toNat ns.length _ ww M.bd (fun e => by have := (M.tl b e).1; omega) M.ty hn) ?_
 rintro e w' ⟨rfl, tv', h1, h2, h3, h4⟩
 exact ⟨rfl, tv', M.keep X h1 h2 h3 h4⟩
theorem kpI {w0 : World} {Ow : List Nat} {b r d m : Nat} (X : Fix w0 Ow b r d m) {p : Pg} {f : Int → Value} {tv : Value} {ns : List UInt8} {dg : ByteArray} {x : Hst} (c : UInt8) (hn : ns.length ≤ 17592186044416) (h0 : 0 < ns.length) :
  ∀ ww, Mem w0 Ow b r d m p f tv ns dg x ww → Calls Tryz.prog 47 #[.pointer (some ⟨b, 1, none⟩), .int .u8 c.toNat, .int .i64 1] ww fun e w' => e = .returned (.tuple #[]) ∧ ∃ tv', Mem w0 Ow b r d m p f tv' (ns ++ [c]) dg x w' := by
 intro ww M
 refine Calls.mono (mKeep_ins b r d tv dg c.toNat ns.length _ ww M.bd (fun e => by have := (M.tl b e).1; omega) M.ty hn h0) ?_
 rintro e w' ⟨rfl, tv', h1, h2, h3, h4⟩
 exact ⟨rfl, tv', M.keep X h1 h2 h3 h4⟩
theorem Mem.nil {w0 : World} {Ow : List Nat} {b r d m : Nat} {p : Pg} {f : Int → Value} {tv : Value} {dg : ByteArray} {x : Hst} {ww : World} (M : Mem w0 Ow b r d m p f tv [] dg x ww) : ∃ a cap, tv = .slice a 0 cap := by
 rcases M.ty.2 with ⟨e, _⟩ | ⟨g, cap, cur, e, _⟩
 ·exact ⟨_, _, e⟩
 ·exact ⟨_, _, e⟩
theorem kp0 {w0 : World} {Ow : List Nat} {b r d m : Nat} {p : Pg} {f : Int → Value} {tv : Value} {dg : ByteArray} {x : Hst} (c : UInt8) (mode : Int) (hm : mode = 1 ∨ mode = 2 ∨ mode = 3) :
  ∀ ww, Mem w0 Ow b r d m p f tv [] dg x ww → Calls Tryz.prog 47 #[.pointer (some ⟨b, 1, none⟩), .int .u8 c.toNat, .int .i64 mode] ww fun e w' => e = .returned (.tuple #[]) ∧ ∃ tv', Mem w0 Ow b r d m p f tv' [] dg x w' := by
 intro ww M
 rcases hm with hm | hm
 ·subst hm
  obtain ⟨a, cap, e⟩ := M.nil
  have M2 := M
  subst e
  refine Calls.mono (mKeep_insNo b r d a cap dg c.toNat ww M.bd) ?_
  rintro e w' ⟨rfl, hb⟩
  exact ⟨rfl, _, Mem.firm _ _ M2 hb⟩
 ·refine Calls.mono (mKeep_not b r d tv dg c.toNat mode ww M.bd hm) ?_
  rintro e w' ⟨rfl, hb⟩
  exact ⟨rfl, _, Mem.firm _ _ M hb⟩
theorem Mem.ended {w0 : World} {Ow : List Nat} {b r d m : Nat} {p : Pg} {f : Int → Value} {tv : Value} {ns : List UInt8} {dg dg' : ByteArray} {x : Hst} {ww w' : World} (M : Mem w0 Ow b r d m p f tv ns dg x ww) (X : Fix w0 Ow b r d m) (hb : BdAt w' b r d (.slice none 0 0) dg') (hu : Upd [b] ww w') : Mem w0 Ow b r d m p f (.slice none 0 0) [] dg' x w' := by
 have lb := X.lb
 have n1 : ∀ k, k ∈ [b] → p.back.ownBlock ≠ some k := by
  intro k hk e; simp at hk; have := (M.bl k e).1; omega
 have n2 : ∀ k, k ∈ [b] → p.forth.ownBlock ≠ some k := by
  intro k hk e; simp at hk; have := (M.fl k e).1; omega
 exact ⟨hb, M.rd.upd hu (by simp [X.ly.br.symm]) (by simp [X.ly.bd.symm]), M.rg.upd hu (by simp [X.ly.mb]), World.ownsRow_nil _ _ _ _, ownsRow_upd M.bk hu n1, ownsRow_upd M.fo hu n2, (fun k hk => by simp [Value.ownBlock] at hk), M.bl, M.fl, (fun k hk => by simp [Value.ownBlock] at hk), (fun k hk => by simp [Value.ownBlock] at hk), M.bf, updMore M.up hu (by intro k hk; left; simp at hk; simp [hk])⟩
theorem nums_str (ns : List UInt8) : strOfNums (ns.map (fun c => (c.toNat : Int))) = ⟨ns.toArray⟩ := by
 unfold strOfNums
 rw [List.map_map]
 have h : ((fun n : Int => UInt8.ofNat n.toNat) ∘ fun c : UInt8 => (c.toNat : Int)) = id := by
  funext c
  simp
 rw [h, List.map_id]
theorem en {w0 : World} {Ow : List Nat} {b r d m : Nat} (X : Fix w0 Ow b r d m) {p : Pg} {f : Int → Value} {tv : Value} {ns : List UInt8} {dg : ByteArray} {x : Hst} (O : Int) :
  ∀ ww, Mem w0 Ow b r d m p f tv ns dg x ww → Calls Tryz.prog 48 #[.pointer (some ⟨b, 1, none⟩), .int .i64 O] ww fun e w' => e = .returned (.tuple #[]) ∧ Mem w0 Ow b r d m p f (.slice none 0 0) [] (if O = 2 ∧ 0 < ns.length then ⟨ns.toArray⟩ else dg) x w' := by
 intro ww M
 by_cases h0 : 0 < ns.length
 ·by_cases hO : O = 2
  ·rw [if_pos ⟨hO, h0⟩]
   obtain ⟨g, cap, e, _⟩ := owned_some M.ty h0
   have M2 := M
   subst e
   subst hO
   have := mEnd_did b r d g ns.length cap (ns.map (fun c => (c.toNat : Int))) dg ww M.bd (by have := M.ty; simpa [Function.comp_def] using this) h0 qi
   rw [nums_str] at this
   refine Calls.mono this ?_
   rintro e w' ⟨rfl, h1, h2⟩
   exact ⟨rfl, M2.ended X h1 h2⟩
  ·rw [if_neg (fun h => hO h.1)]
   refine Calls.mono (mEnd b r d tv dg O ww M.bd hO) ?_
   rintro e w' ⟨rfl, h1, h2⟩
   exact ⟨rfl, M.ended X h1 h2⟩
 ·rw [if_neg (fun h => h0 h.2)]
  have hns : ns = [] := by cases ns with
   | nil => rfl
   | cons a l => simp at h0
  subst hns
  obtain ⟨a, cap, e⟩ := M.nil
  have M2 := M
  subst e
  refine Calls.mono (mEnd_no b r d a cap dg O ww M.bd) ?_
  rintro e w' ⟨rfl, h1, h2⟩
  exact ⟨rfl, M2.ended X h1 h2⟩
def orgT : ByteArray → List Stp → ByteArray
 | t, [] => t
 | t, s :: R => orgT (app t s) R
def pathT : Nat → ByteArray → List Stp → ByteArray
 | 0, t, _ => t
 | _ + 1, t, [] => t
 | j + 1, t, s :: R => pathT j (app t s) R
theorem pathT_wlk1 (x : Hst) (j : Nat) (h : 0 < x.2.1.length) : pathT (j + 1) (wlk1 x).1 (wlk1 x).2.2.reverse = pathT j x.1 x.2.2.reverse := by
 rcases x with ⟨t, R, F⟩
 cases R with
 | nil => simp at h
 | cons s R =>
  show pathT (j + 1) (app t s) (F ++ [mkS (app t s) t]).reverse = pathT j t F.reverse
  rw [List.reverse_append]
  show pathT j (app (app t s) (mkS (app t s) t)) F.reverse = _
  rw [app_mkS]
def kpx (p : Pg) (x : Hst) : Hst := if p.t = p.now then x else (p.t, mkS p.t p.now :: x.2.1, [])
theorem hk {w0 : World} {Ow : List Nat} {b r d m : Nat} (X : Fix w0 Ow b r d m) (p : Pg) {f : Int → Value} {dg : ByteArray} {x : Hst} {N : Nat} (hg : GoodC m p) (ho : HOk p x N) (hN : N ≤ 100000) :
  ∀ ww, Mem w0 Ow b r d m p f (.slice none 0 0) [] dg x ww → Calls Tryz.prog 49 #[.pointer (some ⟨d, 5, none⟩), .string p.t] ww fun e w' => e = .returned (.tuple #[]) ∧ ∃ bk fo, HOk { p with now := p.t, back := bk, forth := fo } (kpx p x) (N + 1) ∧ Mem w0 Ow b r d m { p with now := p.t, back := bk, forth := fo } f (.slice none 0 0) [] dg (kpx p x) w' := by
 intro ww M
 have lb := X.lb; have lr := X.lr; have ld := X.ld; have lm := X.lm
 by_cases e : p.t = p.now
 ·refine Calls.mono (hKeep_same r d p ww M.rd e.symm) ?_
  rintro e1 w' ⟨rfl, hb⟩
  have hp : ({ p with now := p.t, back := p.back, forth := p.forth } : Pg) = p := by cases p; simp only at e; subst e; rfl
  have hx : kpx p x = x := if_pos e
  refine ⟨rfl, p.back, p.forth, ?_, ?_⟩ <;> rw [hx]
  ·rw [hp]; exact ⟨ho.now, ho.z, ho.b, ho.f, Nat.le_succ_of_le ho.n⟩
  ·rw [hp]; exact Mem.firm _ _ M hb
 ·have hz : p.now.size ≤ 1000 := by rw [ho.now]; exact ho.z
  refine Calls.mono (hKeep_new r d p x.2.1.length _ ww M.rd M.bk (fun e => by have := (M.bl d e).1; omega) (fun e => by have := (M.bl r e).1; omega) (by have := ho.n; omega) e hg.ts hz) ?_
  rintro e1 w' ⟨rfl, g, cap, R, O, F, U⟩
  have hw0 := M.up.size
  have hg0 : Free w0 Ow b r d m g := by
   rcases F with h | h
   ·exact M.bl g h
   ·exact X.fresh qo
  have nb : ∀ k, (k = b ∨ k = r ∨ k = d ∨ k = m) → ¬ k = d → k ∉ d :: own p.back := by
   intro k hz hzd hk
   rcases List.mem_cons.1 hk with e | e
   ·exact hzd e
   ·have := (M.bl k (mem_own.1 e)).1; omega
  have hx : kpx p x = (p.t, mkS p.t p.now :: x.2.1, []) := if_neg e
  refine ⟨rfl, .slice (some ⟨g, 0, none⟩) (x.2.1.length + 1) cap, .slice none 0 0, ?_, ?_⟩ <;> rw [hx]
  ·refine ⟨rfl, hg.ts, ?_, trivial, by have := ho.n; simp; omega⟩
   have := ho.b
   rw [← ho.now] at this
   exact OkS.keep this hg.ts hz
  ·refine ⟨M.bd.upd U (nb b qi X.ly.bd), R, M.rg.upd U (nb m qi X.ly.md), World.ownsRow_nil _ _ _ _, ?_, World.ownsRow_nil _ _ _ _, (fun k hk => by simp [Value.ownBlock] at hk), ?_, (fun k hk => by simp [Value.ownBlock] at hk), (fun k hk => by simp [Value.ownBlock] at hk), (fun k hk => by simp [Value.ownBlock] at hk), (fun k hk => by simp [Value.ownBlock]), updMore M.up U ?_⟩
   ·have : celS (mkS p.t p.now :: x.2.1).reverse = celS x.2.1.reverse ++ stp p.t p.now := by
     rw [List.reverse_cons, celS_app, celS_mk]
    show w'.ownsRow 0 130 3 _ (x.2.1.length + 1) (celS (mkS p.t p.now :: x.2.1).reverse)
    rw [this]
    exact O
   ·intro k hk
    have : g = k := by simpa [Value.ownBlock] using hk
    subst this
    exact hg0
   ·intro k hk
    rcases List.mem_cons.1 hk with e | e
    ·left; simp [e]
    ·exact (M.bl k (mem_own.1 e)).in
def InsP (ns : List UInt8) : Prop := ∃ us c js q, ns = us ++ c :: js ∧ runK bg0 us = some q ∧ okK q (c.toNat : Int) ∧ nxt q (c.toNat : Int) = none ∧ insK q (c.toNat : Int) ∧ ∀ k, k ∈ js → ¬ (k.toNat : Int) = 27
def TyOk (p : Pg) (ns : List UInt8) : Prop := (p.mode = 0 ∧ runK bg0 ns = some (bg p)) ∨ (p.mode = 1 ∧ (ns = [] ∨ InsP ns)) ∨ ((p.mode = 2 ∨ p.mode = 3) ∧ ns = [])
structure Inv (t0 : ByteArray) (m N : Nat) (p : Pg) (f : Int → Value) (ns : List UInt8) (dg : ByteArray) (x : Hst) : Prop where
 g : GoodC m p
 b : GoodB p
 f : GoodF f
 h : HOk p x N
 n : ns.length ≤ N
 t : ¬ p.mode = 1 → p.t = p.now
 y : TyOk p ns
 d : DoOk dg
 z : dg.size ≤ N
 o : orgT x.1 x.2.1 = t0
 q : p.mode = 1 → x.2.1.length + x.2.2.length + 1 ≤ N
def StS (t0 : ByteArray) (w0 : World) (Ow : List Nat) (b r d m N : Nat) (ww : World) : Prop := ∃ p f tv ns dg x, Inv t0 m N p f ns dg x ∧ Mem w0 Ow b r d m p f tv ns dg x ww
def StF (t0 : ByteArray) (w0 : World) (Ow : List Nat) (b r d m N : Nat) (p : Pg) (f : Int → Value) (x : Hst) (ww : World) : Prop := ∃ tv ns dg, Inv t0 m N p f ns dg x ∧ Mem w0 Ow b r d m p f tv ns dg x ww
def StX (t0 : ByteArray) (w0 : World) (Ow : List Nat) (b r d m N : Nat) (p : Pg) (x : Hst) (ww : World) : Prop := ∃ f tv ns dg, Inv t0 m N p f ns dg x ∧ Mem w0 Ow b r d m p f tv ns dg x ww
theorem bg_none {p : Pg} (h : p.none' = p) : bg p = bg0 := by rw [← h]; rfl
theorem do_normal {p : Pg} {ns : List UInt8} {c : UInt8} (hr : runK bg0 ns = some (bg p)) (hk : okK p (c.toNat : Int)) (hn : nxt p (c.toNat : Int) = none) (hi : ¬ insK p (c.toNat : Int)) : DoOk ⟨(ns ++ [c]).toArray⟩ :=
 Or.inr ⟨ns ++ [c], rfl, by simp, fun p2 hm h2 => Or.inl ⟨hm, ns, c, [], bg p, rfl, by rw [bg_none h2]; exact hr, hk, by rw [nxt_bg, hn]; rfl, Or.inl ⟨hi, rfl⟩⟩⟩
theorem do_insert {ns : List UInt8} (h : InsP ns) : DoOk ⟨(ns ++ [27]).toArray⟩ := by
 obtain ⟨us, c, js, q, h1, h2, h3, h4, h5, h6⟩ := h
 exact Or.inr ⟨ns ++ [27], rfl, by simp, fun p2 hm hn => Or.inl ⟨hm, us, c, js ++ [27], q, by rw [h1]; simp, by rw [bg_none hn]; exact h2, h3, h4, Or.inr ⟨h5, js, rfl, h6⟩⟩⟩
structure Fct (t0 : ByteArray) (m N : Nat) (ns2 : List UInt8) (Z : Prop) (s : Int × Pg × (Int → Value) × Hst) : Prop where
 o : s.1 = 1 ∨ s.1 = 2 ∨ s.1 = 4
 g : GoodC m s.2.1
 f : GoodF s.2.2.1
 n : s.2.1.none' = s.2.1
 m : ¬ s.2.1.mode = 1
 h : HOk s.2.1 s.2.2.2 N
 d : s.1 = 2 → 0 < ns2.length → DoOk ⟨ns2.toArray⟩
 z : Z → s.2.1.mode = 0
 r : orgT s.2.2.2.1 s.2.2.2.2.1 = t0
theorem Inv.more {t0 : ByteArray} {m N : Nat} {p : Pg} {f : Int → Value} {ns : List UInt8} {dg : ByteArray} {x : Hst} (h : Inv t0 m N p f ns dg x) {p2 : Pg} {f2 : Int → Value} {ns2 : List UInt8} (hg : GoodC m p2) (hb : GoodB p2) (hf : GoodF f2) (e : p2.now = p.now) (hn : ns2.length ≤ N + 1) (ht : ¬ p2.mode = 1 → p2.t = p2.now) (hy : TyOk p2 ns2) : Inv t0 m (N + 1) p2 f2 ns2 dg x :=
 ⟨hg, hb, hf, ⟨e.trans h.h.now, h.h.z, h.h.b, h.h.f, Nat.le_succ_of_le h.h.n⟩, hn, ht, hy, h.d, Nat.le_succ_of_le h.z, h.o, fun _ => by have := h.h.n; omega⟩
theorem HOk.of {p p2 : Pg} {x : Hst} {N : Nat} (h : HOk p x N) (e : p2.now = p.now) : HOk p2 x N := ⟨e.trans h.now, h.z, h.b, h.f, h.n⟩
theorem StS.firm {t0 : ByteArray} {w0 : World} {Ow : List Nat} {b r d m N : Nat} : Firm (StS t0 w0 Ow b r d m N) := by
 rintro w w' ⟨p, f, tv, ns, dg, x, h1, h2⟩ hb
 exact ⟨p, f, tv, ns, dg, x, h1, Mem.firm _ _ h2 hb⟩
theorem StS.up {t0 : ByteArray} {w0 ww : World} {Ow : List Nat} {b r d m N : Nat} (h : StS t0 w0 Ow b r d m N ww) : Upd (b :: r :: d :: m :: Ow) w0 ww := by
 obtain ⟨_, _, _, _, _, _, _, h2⟩ := h
 exact h2.up
theorem nTypeY (q b : Nat) (s : ByteArray) (w : World) (Q : Nat → World → Prop) (hq : w.cell? ⟨q, 0, none⟩ = some (.pointer (some ⟨b, 0, none⟩)))
  (HT : Hid (∀ ww, ww = w → Calls Tryz.prog 30 #[.pointer (some ⟨b, 0, none⟩), .string s] ww fun e w' => ∃ n : Nat, e = .returned (.int .i64 n) ∧ Q n w')) :
  Calls Tryz.prog 17 #[.pointer (some ⟨q, 0, none⟩), .string s] w fun e w' => ∃ n : Nat, e = .returned (.int .i64 n) ∧ Q n w' := by
 go_enter Tryz.func17, Tryz.ntmps17
 go_wp2_with fail
 refine Calls.mono (HT.out _ rfl) ?_
 rintro e w1 ⟨n, rfl, h1⟩
 have HQ : Hid (Q n w1) := h1
 clear h1
 go_wp2
 go_ret
 exact ⟨n, rfl, HQ.out⟩
theorem StX.firm {t0 : ByteArray} {w0 : World} {Ow : List Nat} {b r d m N : Nat} {p : Pg} {x : Hst} : Firm (StX t0 w0 Ow b r d m N p x) := by
 rintro w w' ⟨f, tv, ns, dg, h1, h2⟩ hb
 exact ⟨f, tv, ns, dg, h1, Mem.firm _ _ h2 hb⟩
theorem StX.up {t0 : ByteArray} {w0 ww : World} {Ow : List Nat} {b r d m N : Nat} {p : Pg} {x : Hst} (h : StX t0 w0 Ow b r d m N p x ww) : Upd (b :: r :: d :: m :: Ow) w0 ww := by
 obtain ⟨_, _, _, _, _, h2⟩ := h
 exact h2.up
def StU (t0 : ByteArray) (w0 : World) (Ow : List Nat) (b r d m N : Nat) (x : Hst) (ww : World) : Prop := ∃ p, StX t0 w0 Ow b r d m N p x ww ∧ p.mode = 0 ∧ p.none' = p
theorem StU.firm {t0 : ByteArray} {w0 : World} {Ow : List Nat} {b r d m N : Nat} {x : Hst} : Firm (StU t0 w0 Ow b r d m N x) := by
 rintro w w' ⟨p, h, h1, h2⟩ hb
 exact ⟨p, StX.firm _ _ h hb, h1, h2⟩
theorem StU.up {t0 : ByteArray} {w0 ww : World} {Ow : List Nat} {b r d m N : Nat} {x : Hst} (h : StU t0 w0 Ow b r d m N x ww) : Upd (b :: r :: d :: m :: Ow) w0 ww := by
 obtain ⟨_, h, _⟩ := h
 exact h.up
theorem bType_cnt (b : Nat) (s : ByteArray) (I : Nat → Nat → World → Prop) (w : World) (h : I 0 0 w) (hs : s.size ≤ 17592186044416)
  (HK : ∀ k n, (hk : k < s.size) → ∀ ww, I k n ww → Calls Tryz.prog 38 #[.pointer (some ⟨b, 0, none⟩), .int .u8 (s[k]'hk).toNat] ww fun e w' => ∃ O : Int, e = .returned (.int .i64 O) ∧ (O = 4 → I (k + 1) (n + 1) w') ∧ (¬ O = 4 → I (k + 1) n w')) :
  Calls Tryz.prog 30 #[.pointer (some ⟨b, 0, none⟩), .string s] w fun e w' => ∃ n : Nat, e = .returned (.int .i64 n) ∧ I s.size n w' := by
 have HK' : Hid (∀ k n, (hk : k < s.size) → ∀ ww, I k n ww → Calls Tryz.prog 38 #[.pointer (some ⟨b, 0, none⟩), .int .u8 (s[k]'hk).toNat] ww fun e w' => ∃ O : Int, e = .returned (.int .i64 O) ∧ (O = 4 → I (k + 1) (n + 1) w') ∧ (¬ O = 4 → I (k + 1) n w')) := HK
 clear HK
 go_enter Tryz.func30, Tryz.ntmps30
 go_wp2
 go_loopw [5, 9] (fun m i wr => ∃ k n : Nat, k ≤ s.size ∧ i = .int .i64 k ∧ m = .int .i64 n ∧ n ≤ k ∧ I k n wr) (fun _ i _ => s.size - (intOf i).toNat)
 case atStart => exact ⟨0, 0, Nat.zero_le _, rfl, rfl, Nat.le_refl _, h⟩
 case round =>
  obtain ⟨k, n, hk, rfl, rfl, hnk, h1⟩ := hrel
  by_cases hlt : k < s.size
  ·have HC := HK'.out k n hlt _ h1
   go_wp2_with fail
   refine Calls.mono HC ?_
   rintro e w1 ⟨O, rfl, h2, h3⟩
   clear h1 HC
   by_cases hO : O = 4
   ·have hO' : (O == 4) = true := by simp [hO]
    have h4 := h2 hO
    clear hO h2 h3
    go_wp2
    go_roundw
    case rel => exact ⟨k + 1, n + 1, by omega, by go_num, by go_num, by omega, h4⟩
    case measure => simp [intOf] <;> omega
   ·have hO' : (O == 4) = false := by simp [hO]
    have h4 := h3 hO
    clear hO h2 h3
    go_wp2
    go_roundw
    case rel => exact ⟨k + 1, n, by omega, by go_num, rfl, by omega, h4⟩
    case measure => simp [intOf] <;> omega
  ·have hkn : k = s.size := by omega
   subst hkn
   go_wp2
   go_ret
   exact ⟨n, rfl, h1⟩
theorem StU.state {t0 : ByteArray} {w0 ww : World} {Ow : List Nat} {b r d m N q : Nat} {x : Hst} (h : StU t0 w0 Ow b r d m N x ww) (hq : ww.cell? ⟨q, 0, none⟩ = some (.pointer (some ⟨b, 0, none⟩))) :
  Calls Tryz.prog 18 #[.pointer (some ⟨q, 0, none⟩)] ww fun e w' => ∃ a1 a2 a3 : Int, ∃ l : Bool, e = .returned (.agg #[.string x.1, .int .i64 a1, .int .i64 a2, .int .i64 a3, .bool l]) ∧ Below ww.heap.size ww w' := by
 obtain ⟨p, ⟨f, tv, ns, dg, inv, M⟩, hm, hn⟩ := h
 have e : p.t = x.1 := (inv.t (by rw [hm]; decide)).trans inv.h.now
 have := nState q b r d tv dg p ww hq M.bd M.rd
 rw [e] at this
 refine Calls.mono this ?_
 rintro e w' ⟨rfl, hb⟩
 exact ⟨_, _, _, _, rfl, hb⟩
def Lu (last : ByteArray) (k : Nat) (y : Hst) : Prop := (y.2.1.length + k ≤ 300 ∨ y.2.1.length = 0) ∧ ∃ j, pathT j y.1 y.2.2.reverse = last ∧ j + y.2.1.length ≤ 300
theorem Lu.step {last : ByteArray} {k : Nat} {y : Hst} (h : Lu last k y) : Lu last (k + 1) (wlkN (min 1 y.2.1.length) y) := by
 obtain ⟨h1, j, h2, h3⟩ := h
 by_cases h0 : y.2.1.length = 0
 ·rw [h0, Nat.min_zero]
  exact ⟨Or.inr h0, j, h2, h3⟩
 ·have hm : min 1 y.2.1.length = 1 := by omega
  have hl := (wlkN_len y 1 qo).1
  rw [hm]
  refine ⟨Or.inl qo, j + 1, ?_, by omega⟩
  exact (pathT_wlk1 y j qo).trans h2
end Go.Proofs.YtlendfhehhacpaaGreat
