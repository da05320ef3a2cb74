/- A part. -/
import Derived.Test.YtlendfhehhacpaaGreatQ50
set_option linter.unusedVariables false
set_option linter.unusedSimpArgs false
set_option maxRecDepth 100000
set_option maxHeartbeats 8000000
namespace Go.Proofs.YtlendfhehhacpaaGreat
open Go.RowKit Nib Tryz
def DoOk (dg : ByteArray) : Prop := dg = ⟨#[]⟩ ∨ ∃ ks : List UInt8, dg = ⟨ks.toArray⟩ ∧ 0 < ks.length ∧ ∀ p : Pg, p.mode = 0 → p.none' = p → Ph p ks
def swp (x : Hst) : Hst := (x.1, x.2.2.reverse, x.2.1.reverse)
theorem swp_swp (x : Hst) : swp (swp x) = x := by unfold swp; simp
theorem tkRe {w0 : World} {Ow : List Nat} {b r d m : Nat} (X : Fix w0 Ow b r d m) (p : Pg) (f : Int → Value) (tv : Value) (ns : List UInt8) (dg : ByteArray) (z : Hst) (N : Nat) (hg : GoodC m p) (hm : p.mode = 0) (hv : p.verb = 0) (hp : p.part = 0) (ht : p.t = p.now) (ho : HOk p (swp z) N) (hN : N ≤ 100000) :
  ∀ ww, Mem w0 Ow b r d m p f tv ns dg (swp z) ww → Calls Tryz.prog 46 #[.pointer (some ⟨b, 0, none⟩), .int .u8 18] ww fun e w' => e = .returned (.int .i64 (if z.2.1.length = 0 then 4 else 1)) ∧ WentN w0 Ow b r d m f tv ns dg (uQ p (wlkN (min (max (cnt p) 1) z.2.1.length) z).1).none' (swp (wlkN (min (max (cnt p) 1) z.2.1.length) z)) N w' := by
 intro ww M
 have hd0 : isD p.n 18 = false := by unfold isD; simp
 have lb := X.lb; have lr := X.lr; have ld := X.ld; have lm := X.lm
 have ho1 : OkS z.1 z.2.1 := by have := ho.f; simpa [swp] using this
 have ho2 : OkS z.1 z.2.2.reverse := ho.b
 have ho3 : z.2.1.length + z.2.2.length ≤ N := by have := ho.n; simp [swp] at this; omega
 have hoz : z.1.size ≤ 1000 := ho.z
 have hon : p.now = z.1 := ho.now
 have FO : ∀ {w2 : World}, Mem w0 Ow b r d m p f tv ns dg (swp z) w2 → w2.ownsRow 0 130 3 p.forth z.2.1.length (celS z.2.1.reverse) := fun M => by have := M.fo; simpa [swp] using this
 have BK : ∀ {w2 : World}, Mem w0 Ow b r d m p f tv ns dg (swp z) w2 → w2.ownsRow 0 130 3 p.back z.2.2.length (celS z.2.2) := fun M => by have := M.bk; simpa [swp] using this
 by_cases h0 : z.2.1.length = 0
 ·have hb : ∃ a cap, p.forth = .slice a 0 cap := by
   have := FO M
   rw [h0] at this
   rcases this.2 with ⟨e, _⟩ | ⟨g, cap, cur, e, _⟩
   ·exact ⟨_, _, e⟩
   ·exact ⟨_, _, e⟩
  obtain ⟨a, cap, hb⟩ := hb
  refine Calls.mono (tkH X p f tv ns dg p (swp z) (swp z) N 18 4 [] hm hv hp qd hd0 (Or.inr rfl) qi (fun w2 M2 => Calls.mono (mCommand_redo_no r d p a cap w2 M2.rd hb hg.n hg.bh) ?_) ww M) ?_
  ·rintro e w' ⟨rfl, hbl⟩
   exact ⟨rfl, ⟨p, ⟨p.back, p.forth, rfl⟩, hg, hm, ht, ho, Mem.firm _ _ M2 hbl⟩, Upd.of_below hbl⟩
  ·rintro e w' ⟨rfl, h⟩
   refine ⟨by rw [if_pos h0], ?_⟩
   rw [h0, Nat.min_zero]
   show WentN w0 Ow b r d m f tv ns dg (uQ p z.1).none' (swp z) N w'
   rw [uQ_same (ht.trans hon) hon]
   exact h
 ·obtain ⟨g, cap, hb, _⟩ := owned_some (FO M) qo
  have hbo : p.forth.ownBlock = some g := by rw [hb]; rfl
  have hpp : ({ p with now := z.1, back := p.back, forth := .slice (some ⟨g, 0, none⟩) z.2.1.length cap } : Pg) = p := by rw [← hon, ← hb]
  refine Calls.mono (tkH X p f tv ns dg (uQ p (wlkN (min (max (cnt p) 1) z.2.1.length) z).1) (swp z) (swp (wlkN (min (max (cnt p) 1) z.2.1.length) z)) N 18 1 (d :: own p.back) hm hv hp qd hd0 (Or.inl rfl) ?_ (fun w2 M2 => ?_) ww M) ?_
  ·intro hk
   rcases List.mem_cons.1 hk with e | e
   ·exact X.ly.bd e
   ·have := (M.bl b (mem_own.1 e)).1; omega
  ·have hgl := (M2.fo.lt g hbo).2
   have hw0 := M2.up.size
   have hg0 := M2.fl g hbo
   have hg1 := hg0.1
   have HS : HfAt w2 w2 r d g cap p z p.back := ⟨by rw [hpp]; exact M2.rd, by rw [← hb]; exact FO M2, BK M2, by omega, by omega, fun e => by have := (M2.bl d e).1; omega, fun e => by have := (M2.bl r e).1; omega, fun e => M2.bf g e hbo, hgl, Or.inl rfl, Upd.refl _ _⟩
   refine Calls.mono (mCommand_redo r d g cap p z w2 HS qo hoz ho1 qo hg.ts hg.n hg.bh) ?_
   have hle : min (max (cnt p) 1) z.2.1.length ≤ z.2.1.length := by omega
   have y1 := wlkN_ok z hoz ho1 _ hle
   have y2 := wlkN_forth z hoz ho1 ho2 _ hle
   have y3 := wlkN_len z _ hle
   generalize wlkN (min (max (cnt p) 1) z.2.1.length) z = y at *
   rintro e w' ⟨rfl, ov, S⟩
   obtain ⟨t1, t2, t3, t4⟩ := goT_t p y.1
   have hup : Upd (d :: own p.back) w2 w' := by have := S.up; rw [t4] at this; exact this
   have hfr : p.back.ownBlock = ov.ownBlock ∨ ∀ k, ov.ownBlock = some k → w2.heap.size ≤ k := by have := S.fr; rw [t4] at this; exact this
   refine ⟨rfl, ⟨{ goT p y.1 with now := y.1, back := ov, forth := .slice (some ⟨g, 0, none⟩) y.2.1.length cap }, ⟨_, _, rfl⟩, goT_good hg hm y.1 y1.1 _ _, t2.trans hm, t1, ⟨rfl, y1.1, y2, by have := y1.2; simpa [swp] using this, by simp [swp]; omega⟩, ?_⟩, hup⟩
   have nb : ∀ k, (k = b ∨ k = r ∨ k = d ∨ k = m) → ¬ k = d → k ∉ d :: own p.back := by
    intro k hz hzd hk
    rcases List.mem_cons.1 hk with e | e
    ·exact hzd e
    ·have := (M2.bl k (mem_own.1 e)).1; omega
   refine ⟨M2.bd.upd hup (nb b qi X.ly.bd), S.rd, M2.rg.upd hup (nb m qi X.ly.md), ownsRow_upd M2.ty hup ?_, by have := S.of; simpa [swp] using this, by have := S.ob; simpa [swp] using this, M2.tl, ?_, ?_, ?_, ?_, ?_, updMore M2.up hup ?_⟩
   ·intro k hk e
    rcases List.mem_cons.1 hk with e2 | e2
    ·have := (M2.tl k e).1; omega
    ·exact M2.tb k e (mem_own.1 e2)
   ·intro k hk
    have hk' : ov.ownBlock = some k := hk
    rcases hfr with e | e
    ·exact M2.bl k (by rw [e]; exact hk')
    ·exact X.fresh (by have := e k hk'; omega)
   ·intro k hk
    have : g = k := by simpa [Value.ownBlock] using hk
    subst this
    exact hg0
   ·intro k hk e
    have hk' : ov.ownBlock = some k := e
    rcases hfr with e2 | e2
    ·exact M2.tb k hk (by rw [e2]; exact hk')
    ·have := e2 k hk'; have := (M2.ty.lt k hk).2; omega
   ·intro k hk e
    have : g = k := by simpa [Value.ownBlock] using e
    subst this
    exact M2.tf g hk hbo
   ·intro k hk e
    have hk' : ov.ownBlock = some k := hk
    have : g = k := by simpa [Value.ownBlock] using e
    subst this
    exact S.og hk'
   ·intro k hz
    rcases List.mem_cons.1 hz with e | e
    ·left; simp [e]
    ·exact (M2.bl k (mem_own.1 e)).in
  ·rintro e w' ⟨rfl, h⟩
   exact ⟨by rw [if_neg h0], h⟩
theorem Mem.keep {w0 : World} {Ow : List Nat} {b r d m : Nat} {p : Pg} {f : Int → Value} {tv tv' : Value} {ns : List UInt8} {dg : ByteArray} {x : Hst} {ww w' : World} {c : UInt8} (M : Mem w0 Ow b r d m p f tv ns dg x ww) (X : Fix w0 Ow b r d m) (hb : BdAt w' b r d tv' dg)
  (ho : w'.ownsRow 0 5 1 tv' (ns.length + 1) (ns.map (fun c => .int .u8 (c.toNat : Int)) ++ [.int .u8 (c.toNat : Int)])) (hf : tv'.ownBlock = tv.ownBlock ∨ ∃ g, tv'.ownBlock = some g ∧ ww.heap.size ≤ g) (hu : Upd (b :: own tv) ww w') : Mem w0 Ow b r d m p f tv' (ns ++ [c]) dg x w' := by
 have lb := X.lb; have lr := X.lr; have ld := X.ld; have lm := X.lm
 have hw0 := M.up.size
 have nb : ∀ k, (k = b ∨ k = r ∨ k = d ∨ k = m) → ¬ k = b → k ∉ b :: own tv := by
  intro k hz hzd hk
  rcases List.mem_cons.1 hk with e | e
  ·exact hzd e
  ·have := (M.tl k (mem_own.1 e)).1; omega
 refine ⟨hb, M.rd.upd hu (nb r qi X.ly.br.symm) (nb d qi X.ly.bd.symm), M.rg.upd hu (nb m qi X.ly.mb), by simpa using ho, ownsRow_upd M.bk hu ?_, ownsRow_upd M.fo hu ?_, ?_, M.bl, M.fl, ?_, ?_, M.bf, updMore M.up hu ?_⟩
 ·intro k hk e
  rcases List.mem_cons.1 hk with e2 | e2
  ·have := (M.bl k e).1; omega
  ·exact M.tb k (mem_own.1 e2) e
 ·intro k hk e
  rcases List.mem_cons.1 hk with e2 | e2
  ·have := (M.fl k e).1; omega
  ·exact M.tf k (mem_own.1 e2) e
 ·intro k hk
  rcases hf with e | ⟨g, e1, e2⟩
  ·exact M.tl k (by rw [← e]; exact hk)
  ·rw [e1] at hk; injection hk with hk; exact X.fresh qo
 ·intro k hk e
  rcases hf with e2 | ⟨g, e1, e2⟩
  ·exact M.tb k (by rw [← e2]; exact hk) e
  ·rw [e1] at hk; injection hk with hk; have := (M.bk.lt k e).2; omega
 ·intro k hk e
  rcases hf with e2 | ⟨g, e1, e2⟩
  ·exact M.tf k (by rw [← e2]; exact hk) e
  ·rw [e1] at hk; injection hk with hk; have := (M.fo.lt k e).2; omega
 ·intro k hk
  rcases List.mem_cons.1 hk with e | e
  ·left; simp [e]
  ·exact (M.tl k (mem_own.1 e)).in
theorem kpN {w0 : World} {Ow : List Nat} {b r d m : Nat} (X : Fix w0 Ow b r d m) {p : Pg} {f : Int → Value} {tv : Value} {ns : List UInt8} {dg : ByteArray} {x : Hst} (c : UInt8) (hn : ns.length ≤ 17592186044416) :
  ∀ ww, Mem w0 Ow b r d m p f tv ns dg x ww → Calls Tryz.prog 47 #[.pointer (some ⟨b, 1, none⟩), .int .u8 c.toNat, .int .i64 0] ww fun e w' => e = .returned (.tuple #[]) ∧ ∃ tv', Mem w0 Ow b r d m p f tv' (ns ++ [c]) dg x w' := by
 intro ww M
 refine Calls.mono (mKeep_normal b r d tv dg c.toNat ns.length _ ww M.bd (fun e => by have := (M.tl b e).1; omega) M.ty hn) ?_
 rintro e w' ⟨rfl, tv', h1, h2, h3, h4⟩
 exact ⟨rfl, tv', M.keep X h1 h2 h3 h4⟩
theorem kpI {w0 : World} {Ow : List Nat} {b r d m : Nat} (X : Fix w0 Ow b r d m) {p : Pg} {f : Int → Value} {tv : Value} {ns : List UInt8} {dg : ByteArray} {x : Hst} (c : UInt8) (hn : ns.length ≤ 17592186044416) (h0 : 0 < ns.length) :
  ∀ ww, Mem w0 Ow b r d m p f tv ns dg x ww → Calls Tryz.prog 47 #[.pointer (some ⟨b, 1, none⟩), .int .u8 c.toNat, .int .i64 1] ww fun e w' => e = .returned (.tuple #[]) ∧ ∃ tv', Mem w0 Ow b r d m p f tv' (ns ++ [c]) dg x w' := by
 intro ww M
 refine Calls.mono (mKeep_ins b r d tv dg c.toNat ns.length _ ww M.bd (fun e => by have := (M.tl b e).1; omega) M.ty hn h0) ?_
 rintro e w' ⟨rfl, tv', h1, h2, h3, h4⟩
 exact ⟨rfl, tv', M.keep X h1 h2 h3 h4⟩
theorem Mem.nil {w0 : World} {Ow : List Nat} {b r d m : Nat} {p : Pg} {f : Int → Value} {tv : Value} {dg : ByteArray} {x : Hst} {ww : World} (M : Mem w0 Ow b r d m p f tv [] dg x ww) : ∃ a cap, tv = .slice a 0 cap := by
 rcases M.ty.2 with ⟨e, _⟩ | ⟨g, cap, cur, e, _⟩
 ·exact ⟨_, _, e⟩
 ·exact ⟨_, _, e⟩
theorem kp0 {w0 : World} {Ow : List Nat} {b r d m : Nat} {p : Pg} {f : Int → Value} {tv : Value} {dg : ByteArray} {x : Hst} (c : UInt8) (mode : Int) (hm : mode = 1 ∨ mode = 2 ∨ mode = 3) :
  ∀ ww, Mem w0 Ow b r d m p f tv [] dg x ww → Calls Tryz.prog 47 #[.pointer (some ⟨b, 1, none⟩), .int .u8 c.toNat, .int .i64 mode] ww fun e w' => e = .returned (.tuple #[]) ∧ ∃ tv', Mem w0 Ow b r d m p f tv' [] dg x w' := by
 intro ww M
 rcases hm with hm | hm
 ·subst hm
  obtain ⟨a, cap, e⟩ := M.nil
  have M2 := M
  subst e
  refine Calls.mono (mKeep_insNo b r d a cap dg c.toNat ww M.bd) ?_
  rintro e w' ⟨rfl, hb⟩
  exact ⟨rfl, _, Mem.firm _ _ M2 hb⟩
 ·refine Calls.mono (mKeep_not b r d tv dg c.toNat mode ww M.bd hm) ?_
  rintro e w' ⟨rfl, hb⟩
  exact ⟨rfl, _, Mem.firm _ _ M hb⟩
theorem Mem.ended {w0 : World} {Ow : List Nat} {b r d m : Nat} {p : Pg} {f : Int → Value} {tv : Value} {ns : List UInt8} {dg dg' : ByteArray} {x : Hst} {ww w' : World} (M : Mem w0 Ow b r d m p f tv ns dg x ww) (X : Fix w0 Ow b r d m) (hb : BdAt w' b r d (.slice none 0 0) dg') (hu : Upd [b] ww w') : Mem w0 Ow b r d m p f (.slice none 0 0) [] dg' x w' := by
 have lb := X.lb
 have n1 : ∀ k, k ∈ [b] → p.back.ownBlock ≠ some k := by
  intro k hk e; simp at hk; have := (M.bl k e).1; omega
 have n2 : ∀ k, k ∈ [b] → p.forth.ownBlock ≠ some k := by
  intro k hk e; simp at hk; have := (M.fl k e).1; omega
 exact ⟨hb, M.rd.upd hu (by simp [X.ly.br.symm]) (by simp [X.ly.bd.symm]), M.rg.upd hu (by simp [X.ly.mb]), World.ownsRow_nil _ _ _ _, ownsRow_upd M.bk hu n1, ownsRow_upd M.fo hu n2, (fun k hk => by simp [Value.ownBlock] at hk), M.bl, M.fl, (fun k hk => by simp [Value.ownBlock] at hk), (fun k hk => by simp [Value.ownBlock] at hk), M.bf, updMore M.up hu (by intro k hk; left; simp at hk; simp [hk])⟩
theorem nums_str (ns : List UInt8) : strOfNums (ns.map (fun c => (c.toNat : Int))) = ⟨ns.toArray⟩ := by
 unfold strOfNums
 rw [List.map_map]
 have h : ((fun n : Int => UInt8.ofNat n.toNat) ∘ fun c : UInt8 => (c.toNat : Int)) = id := by
  funext c
  simp
 rw [h, List.map_id]
theorem en {w0 : World} {Ow : List Nat} {b r d m : Nat} (X : Fix w0 Ow b r d m) {p : Pg} {f : Int → Value} {tv : Value} {ns : List UInt8} {dg : ByteArray} {x : Hst} (O : Int) :
  ∀ ww, Mem w0 Ow b r d m p f tv ns dg x ww → Calls Tryz.prog 48 #[.pointer (some ⟨b, 1, none⟩), .int .i64 O] ww fun e w' => e = .returned (.tuple #[]) ∧ Mem w0 Ow b r d m p f (.slice none 0 0) [] (if O = 2 ∧ 0 < ns.length then ⟨ns.toArray⟩ else dg) x w' := by
 intro ww M
 by_cases h0 : 0 < ns.length
 ·by_cases hO : O = 2
  ·rw [if_pos ⟨hO, h0⟩]
   obtain ⟨g, cap, e, _⟩ := owned_some M.ty h0
   have M2 := M
   subst e
   subst hO
   have := mEnd_did b r d g ns.length cap (ns.map (fun c => (c.toNat : Int))) dg ww M.bd (by have := M.ty; simpa [Function.comp_def] using this) h0 qi
   rw [nums_str] at this
   refine Calls.mono this ?_
   rintro e w' ⟨rfl, h1, h2⟩
   exact ⟨rfl, M2.ended X h1 h2⟩
  ·rw [if_neg (fun h => hO h.1)]
   refine Calls.mono (mEnd b r d tv dg O ww M.bd hO) ?_
   rintro e w' ⟨rfl, h1, h2⟩
   exact ⟨rfl, M.ended X h1 h2⟩
 ·rw [if_neg (fun h => h0 h.2)]
  have hns : ns = [] := by cases ns with
   | nil => rfl
   | cons a l => simp at h0
  subst hns
  obtain ⟨a, cap, e⟩ := M.nil
  have M2 := M
  subst e
  refine Calls.mono (mEnd_no b r d a cap dg O ww M.bd) ?_
  rintro e w' ⟨rfl, h1, h2⟩
  exact ⟨rfl, M2.ended X h1 h2⟩
def kpx (p : Pg) (x : Hst) : Hst := if p.t = p.now then x else (p.t, mkS p.t p.now :: x.2.1, [])
theorem hk {w0 : World} {Ow : List Nat} {b r d m : Nat} (X : Fix w0 Ow b r d m) (p : Pg) {f : Int → Value} {dg : ByteArray} {x : Hst} {N : Nat} (hg : GoodC m p) (ho : HOk p x N) (hN : N ≤ 100000) :
  ∀ ww, Mem w0 Ow b r d m p f (.slice none 0 0) [] dg x ww → Calls Tryz.prog 49 #[.pointer (some ⟨d, 5, none⟩), .string p.t] ww fun e w' => e = .returned (.tuple #[]) ∧ ∃ bk fo, HOk { p with now := p.t, back := bk, forth := fo } (kpx p x) (N + 1) ∧ Mem w0 Ow b r d m { p with now := p.t, back := bk, forth := fo } f (.slice none 0 0) [] dg (kpx p x) w' := by
 intro ww M
 have lb := X.lb; have lr := X.lr; have ld := X.ld; have lm := X.lm
 by_cases e : p.t = p.now
 ·refine Calls.mono (hKeep_same r d p ww M.rd e.symm) ?_
  rintro e1 w' ⟨rfl, hb⟩
  have hp : ({ p with now := p.t, back := p.back, forth := p.forth } : Pg) = p := by cases p; simp only at e; subst e; rfl
  have hx : kpx p x = x := if_pos e
  refine ⟨rfl, p.back, p.forth, ?_, ?_⟩ <;> rw [hx]
  ·rw [hp]; exact ⟨ho.now, ho.z, ho.b, ho.f, Nat.le_succ_of_le ho.n⟩
  ·rw [hp]; exact Mem.firm _ _ M hb
 ·have hz : p.now.size ≤ 1000 := by rw [ho.now]; exact ho.z
  refine Calls.mono (hKeep_new r d p x.2.1.length _ ww M.rd M.bk (fun e => by have := (M.bl d e).1; omega) (fun e => by have := (M.bl r e).1; omega) (by have := ho.n; omega) e hg.ts hz) ?_
  rintro e1 w' ⟨rfl, g, cap, R, O, F, U⟩
  have hw0 := M.up.size
  have hg0 : Free w0 Ow b r d m g := by
   rcases F with h | h
   ·exact M.bl g h
   ·exact X.fresh qo
  have nb : ∀ k, (k = b ∨ k = r ∨ k = d ∨ k = m) → ¬ k = d → k ∉ d :: own p.back := by
   intro k hz hzd hk
   rcases List.mem_cons.1 hk with e | e
   ·exact hzd e
   ·have := (M.bl k (mem_own.1 e)).1; omega
  have hx : kpx p x = (p.t, mkS p.t p.now :: x.2.1, []) := if_neg e
  refine ⟨rfl, .slice (some ⟨g, 0, none⟩) (x.2.1.length + 1) cap, .slice none 0 0, ?_, ?_⟩ <;> rw [hx]
  ·refine ⟨rfl, hg.ts, ?_, trivial, by have := ho.n; simp; omega⟩
   have := ho.b
   rw [← ho.now] at this
   exact OkS.keep this hg.ts hz
  ·refine ⟨M.bd.upd U (nb b qi X.ly.bd), R, M.rg.upd U (nb m qi X.ly.md), World.ownsRow_nil _ _ _ _, ?_, World.ownsRow_nil _ _ _ _, (fun k hk => by simp [Value.ownBlock] at hk), ?_, (fun k hk => by simp [Value.ownBlock] at hk), (fun k hk => by simp [Value.ownBlock] at hk), (fun k hk => by simp [Value.ownBlock] at hk), (fun k hk => by simp [Value.ownBlock]), updMore M.up U ?_⟩
   ·have : celS (mkS p.t p.now :: x.2.1).reverse = celS x.2.1.reverse ++ stp p.t p.now := by
     rw [List.reverse_cons, celS_app, celS_mk]
    show w'.ownsRow 0 130 3 _ (x.2.1.length + 1) (celS (mkS p.t p.now :: x.2.1).reverse)
    rw [this]
    exact O
   ·intro k hk
    have : g = k := by simpa [Value.ownBlock] using hk
    subst this
    exact hg0
   ·intro k hk
    rcases List.mem_cons.1 hk with e | e
    ·left; simp [e]
    ·exact (M.bl k (mem_own.1 e)).in
def InsP (ns : List UInt8) : Prop := ∃ us c js q, ns = us ++ c :: js ∧ runK bg0 us = some q ∧ okK q (c.toNat : Int) ∧ nxt q (c.toNat : Int) = none ∧ insK q (c.toNat : Int) ∧ ∀ k, k ∈ js → ¬ (k.toNat : Int) = 27
def TyOk (p : Pg) (ns : List UInt8) : Prop := (p.mode = 0 ∧ runK bg0 ns = some (bg p)) ∨ (p.mode = 1 ∧ (ns = [] ∨ InsP ns)) ∨ ((p.mode = 2 ∨ p.mode = 3) ∧ ns = [])
theorem bg_none {p : Pg} (h : p.none' = p) : bg p = bg0 := by rw [← h]; rfl
theorem do_normal {p : Pg} {ns : List UInt8} {c : UInt8} (hr : runK bg0 ns = some (bg p)) (hk : okK p (c.toNat : Int)) (hn : nxt p (c.toNat : Int) = none) (hi : ¬ insK p (c.toNat : Int)) : DoOk ⟨(ns ++ [c]).toArray⟩ :=
 Or.inr ⟨ns ++ [c], rfl, by simp, fun p2 hm h2 => Or.inl ⟨hm, ns, c, [], bg p, rfl, by rw [bg_none h2]; exact hr, hk, by rw [nxt_bg, hn]; rfl, Or.inl ⟨hi, rfl⟩⟩⟩
theorem do_insert {ns : List UInt8} (h : InsP ns) : DoOk ⟨(ns ++ [27]).toArray⟩ := by
 obtain ⟨us, c, js, q, h1, h2, h3, h4, h5, h6⟩ := h
 exact Or.inr ⟨ns ++ [27], rfl, by simp, fun p2 hm hn => Or.inl ⟨hm, us, c, js ++ [27], q, by rw [h1]; simp, by rw [bg_none hn]; exact h2, h3, h4, Or.inr ⟨h5, js, rfl, h6⟩⟩⟩
theorem HOk.of {p p2 : Pg} {x : Hst} {N : Nat} (h : HOk p x N) (e : p2.now = p.now) : HOk p2 x N := ⟨e.trans h.now, h.z, h.b, h.f, h.n⟩
theorem nTypeY (q b : Nat) (s : ByteArray) (w : World) (Q : Nat → World → Prop) (hq : w.cell? ⟨q, 0, none⟩ = some (.pointer (some ⟨b, 0, none⟩)))
  (HT : Hid (∀ ww, ww = w → Calls Tryz.prog 30 #[.pointer (some ⟨b, 0, none⟩), .string s] ww fun e w' => ∃ n : Nat, e = .returned (.int .i64 n) ∧ Q n w')) :
  Calls Tryz.prog 17 #[.pointer (some ⟨q, 0, none⟩), .string s] w fun e w' => ∃ n : Nat, e = .returned (.int .i64 n) ∧ Q n w' := by
 go_enter func17, ntmps17
 go_wp2_with fail
 refine Calls.mono (HT.out _ rfl) ?_
 rintro e w1 ⟨n, rfl, h1⟩
 have HQ : Hid (Q n w1) := h1
 clear h1
 go_wp2
 go_ret
 exact ⟨n, rfl, HQ.out⟩
theorem bType_cnt (b : Nat) (s : ByteArray) (I : Nat → Nat → World → Prop) (w : World) (h : I 0 0 w) (hs : s.size ≤ 17592186044416)
  (HK : ∀ k n, (hk : k < s.size) → ∀ ww, I k n ww → Calls Tryz.prog 38 #[.pointer (some ⟨b, 0, none⟩), .int .u8 (s[k]'hk).toNat] ww fun e w' => ∃ O : Int, e = .returned (.int .i64 O) ∧ (O = 4 → I (k + 1) (n + 1) w') ∧ (¬ O = 4 → I (k + 1) n w')) :
  Calls Tryz.prog 30 #[.pointer (some ⟨b, 0, none⟩), .string s] w fun e w' => ∃ n : Nat, e = .returned (.int .i64 n) ∧ I s.size n w' := by
 have HK' : Hid (∀ k n, (hk : k < s.size) → ∀ ww, I k n ww → Calls Tryz.prog 38 #[.pointer (some ⟨b, 0, none⟩), .int .u8 (s[k]'hk).toNat] ww fun e w' => ∃ O : Int, e = .returned (.int .i64 O) ∧ (O = 4 → I (k + 1) (n + 1) w') ∧ (¬ O = 4 → I (k + 1) n w')) := HK
 clear HK
 go_enter func30, ntmps30
 go_wp2
 go_loopw [5, 9] (fun m i wr => ∃ k n : Nat, k ≤ s.size ∧ i = .int .i64 k ∧ m = .int .i64 n ∧ n ≤ k ∧ I k n wr) (fun _ i _ => s.size - (intOf i).toNat)
 case atStart => exact ⟨0, 0, Nat.zero_le _, rfl, rfl, Nat.le_refl _, h⟩
 case round =>
  obtain ⟨k, n, hk, rfl, rfl, hnk, h1⟩ := hrel
  by_cases hlt : k < s.size
  ·have HC := HK'.out k n hlt _ h1
   go_wp2_with fail
   refine Calls.mono HC ?_
   rintro e w1 ⟨O, rfl, h2, h3⟩
   clear h1 HC
   by_cases hO : O = 4
   ·have hO' : (O == 4) = true := by simp [hO]
    have h4 := h2 hO
    clear hO h2 h3
    go_wp2
    go_roundw
    case rel => exact ⟨k + 1, n + 1, by omega, by go_num, by go_num, by omega, h4⟩
    case measure => simp [intOf] <;> omega
   ·have hO' : (O == 4) = false := by simp [hO]
    have h4 := h3 hO
    clear hO h2 h3
    go_wp2
    go_roundw
    case rel => exact ⟨k + 1, n, by omega, by go_num, rfl, by omega, h4⟩
    case measure => simp [intOf] <;> omega
  ·have hkn : k = s.size := by omega
   subst hkn
   go_wp2
   go_ret
   exact ⟨n, rfl, h1⟩
theorem GoodP.w {p : Pg} (h : GoodP p) {m : Nat} {a : Ptr} (ha : a.1 = .map (some m)) : GoodC m (p.w a) := ⟨h.ts, h.pl, h.st, h.an, h.mo, h.n, h.bh, h.fd, ha⟩
theorem GoodP.unw {p : Pg} {a : Ptr} (h : GoodP (p.w a)) : GoodP p := ⟨h.ts, h.pl, h.st, h.an, h.mo, h.n, h.bh, h.fd⟩
def a0 : Ptr := (.map (some 0), .slice none 0 0, .slice none 0 0)
theorem insP_w (p : Pg) (c : UInt8) (a : Ptr) : insP (p.w a) c = (insP p c).w a := by
 unfold insP
 have h1 : ∀ bb, putP (p.w a) bb = (putP p bb).w a := by
  intro bb
  unfold putP
  show (if (put p.t bb p.pl).size ≤ 1000 then _ else _) = Pg.w (if (put p.t bb p.pl).size ≤ 1000 then _ else _) a
  split <;> rfl
 have h2 : wipeP (p.w a) = (wipeP p).w a := by
  unfold wipeP
  show (if p.pl = 0 then _ else _) = Pg.w (if p.pl = 0 then _ else _) a
  split <;> rfl
 split
 ·exact h1 _
 ·split
  ·exact h2
  ·split
   ·exact h1 _
   ·rfl
theorem tkIU (p : Pg) (f : Int → Value) (c : UInt8) (hg : GoodP p) (hm : p.mode = 1) (hk : ¬ (c.toNat : Int) = 27) : TkC p f c.toNat 1 (insP p c).none' f := by
 intro w0 Ow b r d m a tv ns dg h X ha ww M
 have := tkI X (p.w a) f tv ns dg h c (hg.w ha) hm hk ww M
 rw [insP_w] at this
 exact this
theorem tkEU (p : Pg) (f : Int → Value) (hg : GoodP p) (hm : p.mode = 1) : TkC p f 27 2 { p with pl := escPl p, mode := 0, anchor := 0 } f :=
 fun w0 Ow b r d m a tv ns dg h X ha ww M => tkE X (p.w a) f tv ns dg h (hg.w ha) hm ww M
theorem tkXU (p : Pg) (f : Int → Value) (hg : GoodP p) (hm : ¬ p.mode = 1) : TkC p f 27 1 { p.none' with mode := 0, anchor := 0 } f :=
 fun w0 Ow b r d m a tv ns dg h X ha ww M => tkX X (p.w a) f tv ns dg h (hg.w ha) hm ww M
theorem insP_goodP {p : Pg} (c : UInt8) (h : GoodP p) (hm : p.mode = 1) : GoodP (insP p c) := by
 have := (insP_good c (h.w (m := 0) (a := a0) rfl) hm).p
 rw [insP_w] at this
 exact this.unw
theorem escGP {p : Pg} (h : GoodP p) : GoodP { p with pl := escPl p, mode := 0, anchor := 0 } := (escG (h.w (m := 0) (a := a0) rfl)).p.unw (p := { p with pl := escPl p, mode := 0, anchor := 0 })
theorem escNP {p : Pg} (h : GoodP p) (hm : ¬ p.mode = 1) : GoodP { p.none' with mode := 0, anchor := 0 } := (escN (h.w (m := 0) (a := a0) rfl) hm).p.unw (p := { p.none' with mode := 0, anchor := 0 })
theorem Ph.stepU (HA : AnyOk) (p : Pg) (f : Int → Value) (c : UInt8) (cs : List UInt8) (hg : GoodP p) (gb : GoodB p) (hf : GoodF f) (ph : Ph p (c :: cs)) :
  ∃ (O : Int) (p2 : Pg) (f2 : Int → Value), GoodP p2 ∧ GoodB p2 ∧ GoodF f2 ∧ p2.now = p.now ∧ (O = 4 → p2.none' = p2 ∧ ¬ p2.mode = 1) ∧ (¬ O = 4 → Ph p2 cs) ∧ TkC p f c.toNat O p2 f2 := by
 rcases ph with ⟨hm, us, k, is, q, h1, h2, h3, h4, h5⟩ | ⟨hm, js, h1, h2⟩ | ⟨_, _, h1⟩
 ·cases us with
  | nil =>
   simp only [List.nil_append, List.cons.injEq] at h1
   obtain ⟨e1, e2⟩ := h1
   subst e1; subst e2
   simp only [runK, Option.some.injEq] at h2
   subst h2
   have hn : nxt p (c.toNat : Int) = none := by
    rw [nxt_bg] at h4
    cases hx : nxt p (c.toNat : Int) with
    | none => rfl
    | some y => rw [hx] at h4; cases h4
   rcases tkNU HA p f c hg gb hf hm h3.1 h3.2 with ⟨p2, g1, _⟩ | ⟨_, O, p2, f2, g1, g2, g3, g4, g5, g6, g7, _, g8⟩
   ·rw [hn] at g1; cases g1
   ·exact qt69
  | cons a us =>
   simp only [List.cons_append, List.cons.injEq] at h1
   obtain ⟨e1, e2⟩ := h1
   subst e1
   have hr : (nxt (bg p) (c.toNat : Int)).bind (fun q2 => runK q2 us) = some q := h2
   rw [nxt_bg] at hr
   cases hx : nxt p (c.toNat : Int) with
   | none => rw [hx] at hr; cases hr
   | some y =>
    rw [hx] at hr
    have ok := nxt_ok hx (isVb_or gb)
    rcases tkNU HA p f c hg gb hf hm ok.1 ok.2 with ⟨p2, g1, g2, g3, g4, g5⟩ | ⟨g1, _⟩
    ·rw [hx] at g1
     injection g1 with g1
     subst g1
     obtain ⟨a1, a2, a3, a4, a5, rfl⟩ := g4
     exact ⟨0, _, f, g2, g3, hf, rfl, (fun e => absurd e qd), (fun _ => Or.inl ⟨hm, us, k, is, q, e2, hr, h3, h4, h5⟩), g5⟩
    ·rw [hx] at g1; cases g1
 ·cases js with
  | nil =>
   simp only [List.nil_append, List.cons.injEq] at h1
   obtain ⟨e1, e2⟩ := h1
   subst e1; subst e2
   have hb := gb.ins hm
   have hn : ({ p with pl := escPl p, mode := 0, anchor := 0 } : Pg).none' = { p with pl := escPl p, mode := 0, anchor := 0 } := by
    obtain ⟨z1, z2, z3, z4, z5⟩ := hb
    show ({ p with pl := escPl p, mode := 0, anchor := 0, reg := 0, n := 0, verb := 0, behind := 0, part := 0 } : Pg) = _
    rw [z1, z2, z3, z4, z5]
   exact ⟨2, { p with pl := escPl p, mode := 0, anchor := 0 }, f, escGP hg, hn ▸ GoodB.none _, hf, rfl, (fun e => absurd e qd), (fun _ => Or.inr (Or.inr ⟨by show ¬ (0 : Int) = 1; decide, hn, rfl⟩)), tkEU p f hg hm⟩
  | cons j js =>
   simp only [List.cons_append, List.cons.injEq] at h1
   obtain ⟨e1, e2⟩ := h1
   subst e1
   obtain ⟨a1, a2, a3, a4⟩ := insP_all p c
   exact ⟨1, (insP p c).none', f, (insP_goodP c hg hm).forget, GoodB.none _, hf, a1, (fun e => absurd e qd), (fun _ => Or.inr (Or.inl ⟨by show (insP p c).mode = 1; rw [a4, hm], js, e2, fun k hk => h2 k (List.mem_cons_of_mem _ hk)⟩)), tkIU p f c hg hm (h2 c (List.mem_cons_self ..))⟩
 ·cases h1
def RunT : List UInt8 → Pg → (Int → Value) → Int → Pg → (Int → Value) → Prop
 | [], p, f, O, p2, f2 => O = 1 ∧ p2 = p ∧ f2 = f
 | c :: cs, p, f, O, p2, f2 => ∃ (O1 : Int) (p1 : Pg) (f1 : Int → Value), TkC p f c.toNat O1 p1 f1 ∧ ((O1 = 4 ∧ O = 4 ∧ p2 = p1 ∧ f2 = f1) ∨ (¬ O1 = 4 ∧ RunT cs p1 f1 O p2 f2))
theorem RunT.ex (HA : AnyOk) : ∀ (ks : List UInt8) (p : Pg) (f : Int → Value), GoodP p → GoodB p → GoodF f → Ph p ks → ∃ O p2 f2, RunT ks p f O p2 f2 ∧ (O = 1 ∨ O = 4) ∧ GoodP p2 ∧ GoodF f2 ∧ p2.none' = p2 ∧ p2.now = p.now ∧ ¬ p2.mode = 1 := by
 intro ks
 induction ks with
 | nil =>
  intro p f hg gb hf ph
  rcases ph with ⟨_, us, c, is, q, e1, _⟩ | ⟨_, js, e1, _⟩ | ⟨e1, e2, _⟩
  ·exfalso; simp at e1
  ·exfalso; simp at e1
  ·exact ⟨1, p, f, ⟨rfl, rfl, rfl⟩, Or.inl rfl, hg, hf, e2, rfl, e1⟩
 | cons c cs ih =>
  intro p f hg gb hf ph
  obtain ⟨O, p2, f2, q1, q2, q3, q4, q5, q6, q7⟩ := Ph.stepU HA p f c cs hg gb hf ph
  by_cases hO : O = 4
  ·exact ⟨4, p2, f2, ⟨O, p2, f2, q7, Or.inl ⟨hO, rfl, rfl, rfl⟩⟩, Or.inr rfl, q1, q3, (q5 hO).1, q4, (q5 hO).2⟩
  ·obtain ⟨O3, p3, f3, r1, r2, r3, r4, r5, r6, r7⟩ := ih p2 f2 q1 q2 q3 (q6 hO)
   exact ⟨O3, p3, f3, ⟨O, p2, f2, q7, Or.inr ⟨hO, r1⟩⟩, r2, r3, r4, r5, r6.trans q4, r7⟩
theorem rptU {ks : List UInt8} {p p2 : Pg} {f f2 : Int → Value} {O : Int} (hR : RunT ks p f O p2 f2) (hl : 0 < ks.length) (hz : ks.length ≤ 17592186044416) :
  ∀ (w0 : World) (Ow : List Nat) (b r d m : Nat) (a : Ptr) (tv : Value) (ns : List UInt8) (h : Hst), Fix w0 Ow b r d m → a.1 = .map (some m) → ∀ ww, Mem w0 Ow b r d m (p.w a) f tv ns ⟨ks.toArray⟩ h ww → Calls Tryz.prog 66 #[.pointer (some ⟨b, 0, none⟩)] ww fun e w' => e = .returned (.int .i64 O) ∧ Mem w0 Ow b r d m (p2.w a) f2 tv ns ⟨ks.toArray⟩ h w' := by
 intro w0 Ow b r d m a tv ns h X ha ww M
 have hsz : (⟨ks.toArray⟩ : ByteArray).size = ks.length := rfl
 refine Calls.mono (bRepeat b r d ⟨ks.toArray⟩ (fun k ww => ∃ pk fk, RunT (ks.drop k) pk fk O p2 f2 ∧ Mem w0 Ow b r d m (pk.w a) fk tv ns ⟨ks.toArray⟩ h ww) (fun ww => O = 4 ∧ Mem w0 Ow b r d m (p2.w a) f2 tv ns ⟨ks.toArray⟩ h ww) ww ⟨p, f, hR, M⟩ qo qo ?_ ?_) ?_
 ·rintro k w2 ⟨pk, fk, _, M2⟩
  exact ⟨tv, M2.bd⟩
 ·rintro k hk w2 ⟨pk, fk, hR2, M2⟩
  have hk2 : k < ks.length := by omega
  rw [List.drop_eq_getElem_cons hk2] at hR2
  obtain ⟨O1, p1, f1, T, hh⟩ := hR2
  have hc : (⟨ks.toArray⟩ : ByteArray)[k]'hk = ks[k]'hk2 := rfl
  rw [hc]
  refine Calls.mono (T w0 Ow b r d m a tv ns ⟨ks.toArray⟩ h X ha w2 M2) ?_
  rintro e w' ⟨rfl, M3⟩
  rcases hh with ⟨e1, e2, e3, e4⟩ | ⟨e1, e2⟩
  ·exact ⟨O1, rfl, fun _ => ⟨e2, by rw [e3, e4]; exact M3⟩, fun h => absurd e1 h⟩
  ·exact ⟨O1, rfl, fun h => absurd h e1, fun _ => ⟨p1, f1, e2, M3⟩⟩
 ·rintro e w' (⟨rfl, hO, hF⟩ | ⟨rfl, pk, fk, hR2, M2⟩)
  ·exact ⟨by rw [hO], hF⟩
  ·rw [hsz, List.drop_length] at hR2
   obtain ⟨e1, e2, e3⟩ := hR2
   exact ⟨by rw [e1], by rw [e2, e3]; exact M2⟩
def TkD (p : Pg) (f : Int → Value) (dg : ByteArray) (x : Hst) (key O : Int) (p2 : Pg) (f2 : Int → Value) (x2 : Hst) : Prop :=
 ∀ (w0 : World) (Ow : List Nat) (b r d m : Nat) (a : Ptr) (tv : Value) (ns : List UInt8), Fix w0 Ow b r d m → a.1 = .map (some m) → ∀ ww, Mem w0 Ow b r d m (p.w a) f tv ns dg x ww → Calls Tryz.prog 46 #[.pointer (some ⟨b, 0, none⟩), .int .u8 key] ww fun e w' => e = .returned (.int .i64 O) ∧ ∃ a2 : Ptr, a2.1 = .map (some m) ∧ Mem w0 Ow b r d m (p2.w a2) f2 tv ns dg x2 w'
theorem TkC.d {p p2 : Pg} {f f2 : Int → Value} {key O : Int} (h : TkC p f key O p2 f2) (dg : ByteArray) (x : Hst) : TkD p f dg x key O p2 f2 x := by
 intro w0 Ow b r d m a tv ns X ha ww M
 refine Calls.mono (h w0 Ow b r d m a tv ns dg x X ha ww M) ?_
 rintro e w' ⟨rfl, M2⟩
 exact ⟨rfl, a, ha, M2⟩
theorem tkDU (HA : AnyOk) (p : Pg) (f : Int → Value) (dg : ByteArray) (x : Hst) (hg : GoodP p) (hf : GoodF f) (hm : p.mode = 0) (hv : p.verb = 0) (hp : p.part = 0) (hd : DoOk dg) (hz : dg.size ≤ 17592186044416) :
  ∃ O p2 f2, (O = 1 ∨ O = 4) ∧ GoodP p2 ∧ GoodF f2 ∧ p2.none' = p2 ∧ p2.now = p.now ∧ ¬ p2.mode = 1 ∧ (∀ ks : List UInt8, dg = ⟨ks.toArray⟩ → 0 < ks.length → RunT ks p.none' f O p2 f2) ∧ (dg = ⟨#[]⟩ → O = 4 ∧ p2 = p.none' ∧ f2 = f) ∧ TkD p f dg x 46 O p2 f2 x := by
 have hd0 : isD p.n 46 = false := by unfold isD; simp
 have go : ∀ O p2 f2, (∀ (w0 : World) (Ow : List Nat) (b r d m : Nat) (a : Ptr) (tv : Value) (ns : List UInt8) (h : Hst), Fix w0 Ow b r d m → a.1 = .map (some m) → ∀ ww, Mem w0 Ow b r d m (p.none'.w a) f tv ns dg h ww → Calls Tryz.prog 66 #[.pointer (some ⟨b, 0, none⟩)] ww fun e w' => e = .returned (.int .i64 O) ∧ Mem w0 Ow b r d m (p2.w a) f2 tv ns dg h w') → TkD p f dg x 46 O p2 f2 x := by
  intro O p2 f2 HR w0 Ow b r d m a tv ns X ha ww M
  refine Calls.mono (bTake_again b r d tv dg (p.w a) 46 (Mem w0 Ow b r d m (p.w a) f tv ns dg x) (Mem w0 Ow b r d m (p.none'.w a) f tv ns dg x) (fun O' w' => O' = O ∧ Mem w0 Ow b r d m (p2.w a) f2 tv ns dg x w') ww M.bd M Mem.firm Mem.firm (fun _ h => h.rd) hm qd ?_ ?_ ?_) ?_
  ·intro w2 M2
   refine Calls.mono (mTake_cmdB r d (p.w a) 46 3 (Mem w0 Ow b r d m (p.w a) f tv ns dg x) (Mem w0 Ow b r d m (p.w a) f tv ns dg x) [] w2 M2 Mem.firm Mem.firm (fun _ h => h.rd) hp hv hd0 (fun w3 M3 => Calls.mono (mCommand_dot r w3) ?_)) ?_
   ·rintro e w' ⟨rfl, hb⟩
    exact ⟨rfl, Mem.firm _ _ M3 hb, Upd.of_below hb⟩
   ·rintro e w' ⟨rfl, _, hu⟩
    exact ⟨rfl, below_of_upd hu (Nat.le_refl _) qi⟩
  ·intro w2 M2
   refine Calls.mono (mForget r d (p.w a) w2 M2.rd) ?_
   rintro e w' ⟨rfl, l, u⟩
   exact ⟨rfl, M2.step X ⟨l, M2.rg.upd u (by simp [X.ly.mr])⟩ u (by intro k hk; simp at hk; omega) rfl rfl⟩
  ·intro w2 M2
   refine Calls.mono (HR w0 Ow b r d m a tv ns x X ha w2 M2) ?_
   rintro e w' ⟨rfl, h⟩
   exact ⟨O, rfl, rfl, h⟩
  ·rintro e w' ⟨O', rfl, rfl, h⟩
   exact ⟨rfl, a, ha, h⟩
 rcases hd with hd | ⟨ks, hd, hl, hph⟩
 ·subst hd
  refine ⟨4, p.none', f, Or.inr rfl, hg.forget, hf, rfl, rfl, by show ¬ p.mode = 1; rw [hm]; decide, ?_, fun _ => ⟨rfl, rfl, rfl⟩, go _ _ _ ?_⟩
  ·intro ks e h0
   have : ks = [] := by
    have e2 : ks.toArray = #[] := (ByteArray.mk.inj e).symm
    simpa using congrArg Array.toList e2
   rw [this] at h0
   simp at h0
  ·intro w0 Ow b r d m a tv ns h X ha ww M
   refine Calls.mono (bRepeat_none b r d tv ww M.bd) ?_
   rintro e w' ⟨rfl, hb⟩
   exact ⟨rfl, Mem.firm _ _ M hb⟩
 ·obtain ⟨O, p2, f2, r1, r2, r3, r4, r5, r6, r7⟩ := RunT.ex HA ks p.none' f hg.forget (GoodB.none p) hf (hph p.none' hm rfl)
  have hsz : dg.size = ks.length := by subst hd; rfl
  refine ⟨O, p2, f2, r2, r3, r4, r5, r6, r7, ?_, ?_, go _ _ _ ?_⟩
  ·intro ks2 e _
   have : ks2 = ks := by
    rw [hd] at e
    have e2 : ks.toArray = ks2.toArray := ByteArray.mk.inj e
    simpa using (congrArg Array.toList e2).symm
   rw [this]; exact r1
  ·intro e
   exfalso
   rw [e] at hsz
   have : (⟨#[]⟩ : ByteArray).size = 0 := rfl
   omega
  ·subst hd
   exact rptU r1 hl qo
theorem tkUU (p : Pg) (f : Int → Value) (dg : ByteArray) (x : Hst) (N : Nat) (hg : GoodP p) (hm : p.mode = 0) (hv : p.verb = 0) (hp : p.part = 0) (ht : p.t = p.now) (ho : HOk p x N) (hN : N ≤ 100000) :
  TkD p f dg x 117 (if x.2.1.length = 0 then 4 else 1) (uQ p (wlkN (min (max (cnt p) 1) x.2.1.length) x).1).none' f (wlkN (min (max (cnt p) 1) x.2.1.length) x) := by
 intro w0 Ow b r d m a tv ns X ha ww M
 have := tkU X (p.w a) f tv ns dg x N (hg.w ha) hm hv hp ht ⟨ho.now, ho.z, ho.b, ho.f, ho.n⟩ hN ww M
 refine Calls.mono this ?_
 rintro e w' ⟨rfl, p2, ⟨bk, fo, e2⟩, h1, _, _, _, _, M2⟩
 refine ⟨rfl, (p2.regs, bk, fo), h1.rg, ?_⟩
 have e3 : (uQ p (wlkN (min (max (cnt p) 1) x.2.1.length) x).1).none'.w (p2.regs, bk, fo) = p2 := by
  rw [e2]
  have : uQ (p.w a) (wlkN (min (max (cnt (p.w a)) 1) x.2.1.length) x).1 = (uQ p (wlkN (min (max (cnt p) 1) x.2.1.length) x).1).w a := by
   show uQ (p.w a) (wlkN (min (max (cnt p) 1) x.2.1.length) x).1 = _
   generalize (wlkN (min (max (cnt p) 1) x.2.1.length) x).1 = t
   unfold uQ goT
   show ({ (if t = p.t then p.w a else _) with now := t } : Pg) = Pg.w { (if t = p.t then p else _) with now := t } a
   split <;> rfl
  rw [this]
 rw [e3]
 exact M2
theorem tkRU (p : Pg) (f : Int → Value) (dg : ByteArray) (z : Hst) (N : Nat) (hg : GoodP p) (hm : p.mode = 0) (hv : p.verb = 0) (hp : p.part = 0) (ht : p.t = p.now) (ho : HOk p (swp z) N) (hN : N ≤ 100000) :
  TkD p f dg (swp z) 18 (if z.2.1.length = 0 then 4 else 1) (uQ p (wlkN (min (max (cnt p) 1) z.2.1.length) z).1).none' f (swp (wlkN (min (max (cnt p) 1) z.2.1.length) z)) := by
 intro w0 Ow b r d m a tv ns X ha ww M
 have := tkRe X (p.w a) f tv ns dg z N (hg.w ha) hm hv hp ht ⟨ho.now, ho.z, ho.b, ho.f, ho.n⟩ hN ww M
 refine Calls.mono this ?_
 rintro e w' ⟨rfl, p2, ⟨bk, fo, e2⟩, h1, _, _, _, _, M2⟩
 refine ⟨rfl, (p2.regs, bk, fo), h1.rg, ?_⟩
 have e3 : (uQ p (wlkN (min (max (cnt p) 1) z.2.1.length) z).1).none'.w (p2.regs, bk, fo) = p2 := by
  rw [e2]
  have : uQ (p.w a) (wlkN (min (max (cnt (p.w a)) 1) z.2.1.length) z).1 = (uQ p (wlkN (min (max (cnt p) 1) z.2.1.length) z).1).w a := by
   show uQ (p.w a) (wlkN (min (max (cnt p) 1) z.2.1.length) z).1 = _
   generalize (wlkN (min (max (cnt p) 1) z.2.1.length) z).1 = t
   unfold uQ goT
   show ({ (if t = p.t then p.w a else _) with now := t } : Pg) = Pg.w { (if t = p.t then p else _) with now := t } a
   split <;> rfl
  rw [this]
 rw [e3]
 exact M2
