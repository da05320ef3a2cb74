/- A part. -/
import Derived.Test.YtlendfhehhacpaaGreatT52
set_option linter.unusedVariables false
set_option linter.unusedSimpArgs false
set_option maxRecDepth 100000
set_option maxHeartbeats 8000000
namespace Go.Proofs.YtlendfhehhacpaaGreat
open Go.RowKit Nib Tryz
def DoOk (dg : ByteArray) : Prop := dg = ⟨#[]⟩ ∨ ∃ ks : List UInt8, dg = ⟨ks.toArray⟩ ∧ 0 < ks.length ∧ ∀ p : Pg, p.mode = 0 → p.none' = p → Ph p ks
def Over (w0 : World) (Ow : List Nat) (b r d m : Nat) (p : Pg) (tv : Value) (ns : List UInt8) (dg : ByteArray) (h : Hst) (ww : World) : Prop :=
 ∃ p2 f2, GoodC m p2 ∧ GoodF f2 ∧ p2.none' = p2 ∧ (p2.now = p.now ∧ p2.back = p.back ∧ p2.forth = p.forth) ∧ ¬ p2.mode = 1 ∧ Mem w0 Ow b r d m p2 f2 tv ns dg h ww
theorem rpt (HA : AnyOk) {w0 : World} {Ow : List Nat} {b r d m : Nat} (X : Fix w0 Ow b r d m) (p : Pg) (f : Int → Value) (tv : Value) (ns : List UInt8) (dg : ByteArray) (h : Hst) (hg : GoodC m p) (hf : GoodF f) (hm : p.mode = 0) (hn : p.none' = p) (hd : DoOk dg) (hz : dg.size ≤ 17592186044416) :
  ∀ ww, Mem w0 Ow b r d m p f tv ns dg h ww → Calls Tryz.prog 66 #[.pointer (some ⟨b, 0, none⟩)] ww fun e w' => ∃ O : Int, e = .returned (.int .i64 O) ∧ (O = 1 ∨ O = 4) ∧ Over w0 Ow b r d m p tv ns dg h w' := by
 intro ww M
 rcases hd with hd | ⟨ks, hd, hl, hp⟩
 ·subst hd
  refine Calls.mono (bRepeat_none b r d tv ww M.bd) ?_
  rintro e w' ⟨rfl, hb⟩
  exact ⟨4, rfl, Or.inr rfl, p, f, hg, hf, hn, ⟨rfl, rfl, rfl⟩, by rw [hm]; decide, Mem.firm _ _ M hb⟩
 ·have hsz : dg.size = ks.length := by subst hd; rfl
  refine Calls.mono (bRepeat b r d dg (fun k ww => ∃ p2 f2, GoodC m p2 ∧ GoodB p2 ∧ GoodF f2 ∧ (p2.now = p.now ∧ p2.back = p.back ∧ p2.forth = p.forth) ∧ Ph p2 (ks.drop k) ∧ Mem w0 Ow b r d m p2 f2 tv ns dg h ww) (Over w0 Ow b r d m p tv ns dg h) ww ⟨p, f, hg, hn ▸ GoodB.none p, hf, ⟨rfl, rfl, rfl⟩, hp p hm hn, M⟩ hz qo ?_ ?_) ?_
  ·rintro k w2 ⟨p2, f2, _, _, _, _, _, M2⟩
   exact ⟨tv, M2.bd⟩
  ·rintro k hk w2 ⟨p2, f2, g1, g2, g3, g4, g5, M2⟩
   have hk2 : k < ks.length := by omega
   rw [List.drop_eq_getElem_cons hk2] at g5
   have hc : dg[k]'hk = ks[k]'hk2 := by subst hd; rfl
   rw [hc]
   obtain ⟨O, p3, f3, q1, q2, q3, q4, q5, q6, q7⟩ := Ph.step HA X p2 f2 tv ns dg h (ks[k]'hk2) (ks.drop (k + 1)) g1 g2 g3 g5
   refine Calls.mono (q7 w2 M2) ?_
   rintro e w' ⟨rfl, M3⟩
   have q4' : p3.now = p.now ∧ p3.back = p.back ∧ p3.forth = p.forth := ⟨q4.1.trans g4.1, q4.2.1.trans g4.2.1, q4.2.2.trans g4.2.2⟩
   exact ⟨O, rfl, fun e => ⟨p3, f3, q1, q3, (q5 e).1, q4', (q5 e).2, M3⟩, fun e => ⟨p3, f3, q1, q2, q3, q4', q6 e, M3⟩⟩
  ·rintro e w' (⟨rfl, hF⟩ | ⟨rfl, p2, f2, g1, g2, g3, g4, g5, M2⟩)
   ·exact ⟨4, rfl, Or.inr rfl, hF⟩
   ·rw [hsz, List.drop_length] at g5
    rcases g5 with ⟨_, us, c, is, q, e1, _⟩ | ⟨_, js, e1, _⟩ | ⟨e1, e2, _⟩
    ·exfalso; simp at e1
    ·exfalso; simp at e1
    ·exact ⟨1, rfl, Or.inl rfl, p2, f2, g1, g3, e2, g4, e1, M2⟩
theorem tkD (HA : AnyOk) {w0 : World} {Ow : List Nat} {b r d m : Nat} (X : Fix w0 Ow b r d m) (p : Pg) (f : Int → Value) (tv : Value) (ns : List UInt8) (dg : ByteArray) (h : Hst) (hg : GoodC m p) (hf : GoodF f) (hm : p.mode = 0) (hv : p.verb = 0) (hp : p.part = 0) (hd : DoOk dg) (hz : dg.size ≤ 17592186044416) :
  ∀ ww, Mem w0 Ow b r d m p f tv ns dg h ww → Calls Tryz.prog 46 #[.pointer (some ⟨b, 0, none⟩), .int .u8 46] ww fun e w' => ∃ O : Int, e = .returned (.int .i64 O) ∧ (O = 1 ∨ O = 4) ∧ Over w0 Ow b r d m p tv ns dg h w' := by
 intro ww M
 refine bTake_again b r d tv dg p 46 (Mem w0 Ow b r d m p f tv ns dg h) (Mem w0 Ow b r d m p.none' f tv ns dg h) (fun O w' => (O = 1 ∨ O = 4) ∧ Over w0 Ow b r d m p tv ns dg h w') ww M.bd M Mem.firm Mem.firm (fun _ h => h.rd) hm qd ?_ ?_ ?_
 ·intro w2 M2
  have hd0 : isD p.n 46 = false := by unfold isD; simp
  refine Calls.mono (mTake_cmdB r d p 46 3 (Mem w0 Ow b r d m p f tv ns dg h) (Mem w0 Ow b r d m p f tv ns dg h) [] w2 M2 Mem.firm Mem.firm (fun _ h => h.rd) hp hv hd0 (fun w3 M3 => Calls.mono (mCommand_dot r w3) ?_)) ?_
  ·rintro e w' ⟨rfl, hb⟩
   exact ⟨rfl, Mem.firm _ _ M3 hb, Upd.of_below hb⟩
  ·rintro e w' ⟨rfl, _, hu⟩
   exact ⟨rfl, below_of_upd hu (Nat.le_refl _) qi⟩
 ·intro w2 M2
  refine Calls.mono (mForget r d p w2 M2.rd) ?_
  rintro e w' ⟨rfl, a, u⟩
  exact ⟨rfl, M2.step X ⟨a, M2.rg.upd u (by simp [X.ly.mr])⟩ u (by intro k hk; simp at hk; omega) rfl rfl⟩
 ·intro w2 M2
  refine Calls.mono (rpt HA X p.none' f tv ns dg h hg.forget hf hm rfl hd hz w2 M2) ?_
  rintro e w' ⟨O, rfl, hO, hv⟩
  exact ⟨O, rfl, hO, hv⟩
def swp (x : Hst) : Hst := (x.1, x.2.2.reverse, x.2.1.reverse)
theorem swp_swp (x : Hst) : swp (swp x) = x := by unfold swp; simp
theorem tkRe {w0 : World} {Ow : List Nat} {b r d m : Nat} (X : Fix w0 Ow b r d m) (p : Pg) (f : Int → Value) (tv : Value) (ns : List UInt8) (dg : ByteArray) (z : Hst) (N : Nat) (hg : GoodC m p) (hm : p.mode = 0) (hv : p.verb = 0) (hp : p.part = 0) (ht : p.t = p.now) (ho : HOk p (swp z) N) (hN : N ≤ 100000) :
  ∀ ww, Mem w0 Ow b r d m p f tv ns dg (swp z) ww → Calls Tryz.prog 46 #[.pointer (some ⟨b, 0, none⟩), .int .u8 18] ww fun e w' => e = .returned (.int .i64 (if z.2.1.length = 0 then 4 else 1)) ∧ WentN w0 Ow b r d m f tv ns dg (uQ p (wlkN (min (max (cnt p) 1) z.2.1.length) z).1).none' (swp (wlkN (min (max (cnt p) 1) z.2.1.length) z)) N w' := by
 intro ww M
 have hd0 : isD p.n 18 = false := by unfold isD; simp
 have lb := X.lb; have lr := X.lr; have ld := X.ld; have lm := X.lm
 have ho1 : OkS z.1 z.2.1 := by have := ho.f; simpa [swp] using this
 have ho2 : OkS z.1 z.2.2.reverse := ho.b
 have ho3 : z.2.1.length + z.2.2.length ≤ N := by have := ho.n; simp [swp] at this; omega
 have hoz : z.1.size ≤ 1000 := ho.z
 have hon : p.now = z.1 := ho.now
 have FO : ∀ {w2 : World}, Mem w0 Ow b r d m p f tv ns dg (swp z) w2 → w2.ownsRow 0 130 3 p.forth z.2.1.length (celS z.2.1.reverse) := fun M => by have := M.fo; simpa [swp] using this
 have BK : ∀ {w2 : World}, Mem w0 Ow b r d m p f tv ns dg (swp z) w2 → w2.ownsRow 0 130 3 p.back z.2.2.length (celS z.2.2) := fun M => by have := M.bk; simpa [swp] using this
 by_cases h0 : z.2.1.length = 0
 ·have hb : ∃ a cap, p.forth = .slice a 0 cap := by
   have := FO M
   rw [h0] at this
   rcases this.2 with ⟨e, _⟩ | ⟨g, cap, cur, e, _⟩
   ·exact ⟨_, _, e⟩
   ·exact ⟨_, _, e⟩
  obtain ⟨a, cap, hb⟩ := hb
  refine Calls.mono (tkH X p f tv ns dg p (swp z) (swp z) N 18 4 [] hm hv hp qd hd0 (Or.inr rfl) qi (fun w2 M2 => Calls.mono (mCommand_redo_no r d p a cap w2 M2.rd hb hg.n hg.bh) ?_) ww M) ?_
  ·rintro e w' ⟨rfl, hbl⟩
   exact ⟨rfl, ⟨p, ⟨p.back, p.forth, rfl⟩, hg, hm, ht, ho, Mem.firm _ _ M2 hbl⟩, Upd.of_below hbl⟩
  ·rintro e w' ⟨rfl, h⟩
   refine ⟨by rw [if_pos h0], ?_⟩
   rw [h0, Nat.min_zero]
   show WentN w0 Ow b r d m f tv ns dg (uQ p z.1).none' (swp z) N w'
   rw [uQ_same (ht.trans hon) hon]
   exact h
 ·obtain ⟨g, cap, hb, _⟩ := owned_some (FO M) qo
  have hbo : p.forth.ownBlock = some g := by rw [hb]; rfl
  have hpp : ({ p with now := z.1, back := p.back, forth := .slice (some ⟨g, 0, none⟩) z.2.1.length cap } : Pg) = p := by rw [← hon, ← hb]
  refine Calls.mono (tkH X p f tv ns dg (uQ p (wlkN (min (max (cnt p) 1) z.2.1.length) z).1) (swp z) (swp (wlkN (min (max (cnt p) 1) z.2.1.length) z)) N 18 1 (d :: own p.back) hm hv hp qd hd0 (Or.inl rfl) ?_ (fun w2 M2 => ?_) ww M) ?_
  ·intro hk
   rcases List.mem_cons.1 hk with e | e
   ·exact X.ly.bd e
   ·have := (M.bl b (mem_own.1 e)).1; omega
  ·have hgl := (M2.fo.lt g hbo).2
   have hw0 := M2.up.size
   have hg0 := M2.fl g hbo
   have hg1 := hg0.1
   have HS : HfAt w2 w2 r d g cap p z p.back := ⟨by rw [hpp]; exact M2.rd, by rw [← hb]; exact FO M2, BK M2, by omega, by omega, fun e => by have := (M2.bl d e).1; omega, fun e => by have := (M2.bl r e).1; omega, fun e => M2.bf g e hbo, hgl, Or.inl rfl, Upd.refl _ _⟩
   refine Calls.mono (mCommand_redo r d g cap p z w2 HS qo hoz ho1 qo hg.ts hg.n hg.bh) ?_
   have hle : min (max (cnt p) 1) z.2.1.length ≤ z.2.1.length := by omega
   have y1 := wlkN_ok z hoz ho1 _ hle
   have y2 := wlkN_forth z hoz ho1 ho2 _ hle
   have y3 := wlkN_len z _ hle
   generalize wlkN (min (max (cnt p) 1) z.2.1.length) z = y at *
   rintro e w' ⟨rfl, ov, S⟩
   obtain ⟨t1, t2, t3, t4⟩ := goT_t p y.1
   have hup : Upd (d :: own p.back) w2 w' := by have := S.up; rw [t4] at this; exact this
   have hfr : p.back.ownBlock = ov.ownBlock ∨ ∀ k, ov.ownBlock = some k → w2.heap.size ≤ k := by have := S.fr; rw [t4] at this; exact this
   refine ⟨rfl, ⟨{ goT p y.1 with now := y.1, back := ov, forth := .slice (some ⟨g, 0, none⟩) y.2.1.length cap }, ⟨_, _, rfl⟩, goT_good hg hm y.1 y1.1 _ _, t2.trans hm, t1, ⟨rfl, y1.1, y2, by have := y1.2; simpa [swp] using this, by simp [swp]; omega⟩, ?_⟩, hup⟩
   have nb : ∀ k, (k = b ∨ k = r ∨ k = d ∨ k = m) → ¬ k = d → k ∉ d :: own p.back := by
    intro k hz hzd hk
    rcases List.mem_cons.1 hk with e | e
    ·exact hzd e
    ·have := (M2.bl k (mem_own.1 e)).1; omega
   refine ⟨M2.bd.upd hup (nb b qi X.ly.bd), S.rd, M2.rg.upd hup (nb m qi X.ly.md), ownsRow_upd M2.ty hup ?_, by have := S.of; simpa [swp] using this, by have := S.ob; simpa [swp] using this, M2.tl, ?_, ?_, ?_, ?_, ?_, updMore M2.up hup ?_⟩
   ·intro k hk e
    rcases List.mem_cons.1 hk with e2 | e2
    ·have := (M2.tl k e).1; omega
    ·exact M2.tb k e (mem_own.1 e2)
   ·intro k hk
    have hk' : ov.ownBlock = some k := hk
    rcases hfr with e | e
    ·exact M2.bl k (by rw [e]; exact hk')
    ·exact X.fresh (by have := e k hk'; omega)
   ·intro k hk
    have : g = k := by simpa [Value.ownBlock] using hk
    subst this
    exact hg0
   ·intro k hk e
    have hk' : ov.ownBlock = some k := e
    rcases hfr with e2 | e2
    ·exact M2.tb k hk (by rw [e2]; exact hk')
    ·have := e2 k hk'; have := (M2.ty.lt k hk).2; omega
   ·intro k hk e
    have : g = k := by simpa [Value.ownBlock] using e
    subst this
    exact M2.tf g hk hbo
   ·intro k hk e
    have hk' : ov.ownBlock = some k := hk
    have : g = k := by simpa [Value.ownBlock] using e
    subst this
    exact S.og hk'
   ·intro k hz
    rcases List.mem_cons.1 hz with e | e
    ·left; simp [e]
    ·exact (M2.bl k (mem_own.1 e)).in
  ·rintro e w' ⟨rfl, h⟩
   exact ⟨by rw [if_neg h0], h⟩
theorem Mem.keep {w0 : World} {Ow : List Nat} {b r d m : Nat} {p : Pg} {f : Int → Value} {tv tv' : Value} {ns : List UInt8} {dg : ByteArray} {x : Hst} {ww w' : World} {c : UInt8} (M : Mem w0 Ow b r d m p f tv ns dg x ww) (X : Fix w0 Ow b r d m) (hb : BdAt w' b r d tv' dg)
  (ho : w'.ownsRow 0 5 1 tv' (ns.length + 1) (ns.map (fun c => .int .u8 (c.toNat : Int)) ++ [.int .u8 (c.toNat : Int)])) (hf : tv'.ownBlock = tv.ownBlock ∨ ∃ g, tv'.ownBlock = some g ∧ ww.heap.size ≤ g) (hu : Upd (b :: own tv) ww w') : Mem w0 Ow b r d m p f tv' (ns ++ [c]) dg x w' := by
 have lb := X.lb; have lr := X.lr; have ld := X.ld; have lm := X.lm
 have hw0 := M.up.size
 have nb : ∀ k, (k = b ∨ k = r ∨ k = d ∨ k = m) → ¬ k = b → k ∉ b :: own tv := by
  intro k hz hzd hk
  rcases List.mem_cons.1 hk with e | e
  ·exact hzd e
  ·have := (M.tl k (mem_own.1 e)).1; omega
 refine ⟨hb, M.rd.upd hu (nb r qi X.ly.br.symm) (nb d qi X.ly.bd.symm), M.rg.upd hu (nb m qi X.ly.mb), by simpa using ho, ownsRow_upd M.bk hu ?_, ownsRow_upd M.fo hu ?_, ?_, M.bl, M.fl, ?_, ?_, M.bf, updMore M.up hu ?_⟩
 ·intro k hk e
  rcases List.mem_cons.1 hk with e2 | e2
  ·have := (M.bl k e).1; omega
  ·exact M.tb k (mem_own.1 e2) e
 ·intro k hk e
  rcases List.mem_cons.1 hk with e2 | e2
  ·have := (M.fl k e).1; omega
  ·exact M.tf k (mem_own.1 e2) e
 ·intro k hk
  rcases hf with e | ⟨g, e1, e2⟩
  ·exact M.tl k (by rw [← e]; exact hk)
  ·rw [e1] at hk; injection hk with hk; exact X.fresh qo
 ·intro k hk e
  rcases hf with e2 | ⟨g, e1, e2⟩
  ·exact M.tb k (by rw [← e2]; exact hk) e
  ·rw [e1] at hk; injection hk with hk; have := (M.bk.lt k e).2; omega
 ·intro k hk e
  rcases hf with e2 | ⟨g, e1, e2⟩
  ·exact M.tf k (by rw [← e2]; exact hk) e
  ·rw [e1] at hk; injection hk with hk; have := (M.fo.lt k e).2; omega
 ·intro k hk
  rcases List.mem_cons.1 hk with e | e
  ·left; simp [e]
  ·exact (M.tl k (mem_own.1 e)).in
theorem kpN {w0 : World} {Ow : List Nat} {b r d m : Nat} (X : Fix w0 Ow b r d m) {p : Pg} {f : Int → Value} {tv : Value} {ns : List UInt8} {dg : ByteArray} {x : Hst} (c : UInt8) (hn : ns.length ≤ 17592186044416) :
  ∀ ww, Mem w0 Ow b r d m p f tv ns dg x ww → Calls Tryz.prog 47 #[.pointer (some ⟨b, 1, none⟩), .int .u8 c.toNat, .int .i64 0] ww fun e w' => e = .returned (.tuple #[]) ∧ ∃ tv', Mem w0 Ow b r d m p f tv' (ns ++ [c]) dg x w' := by
 intro ww M
 refine Calls.mono (mKeep_normal b r d tv dg c.toNat ns.length _ ww M.bd (fun e => by have := (M.tl b e).1; omega) M.ty hn) ?_
 rintro e w' ⟨rfl, tv', h1, h2, h3, h4⟩
 exact ⟨rfl, tv', M.keep X h1 h2 h3 h4⟩
theorem kpI {w0 : World} {Ow : List Nat} {b r d m : Nat} (X : Fix w0 Ow b r d m) {p : Pg} {f : Int → Value} {tv : Value} {ns : List UInt8} {dg : ByteArray} {x : Hst} (c : UInt8) (hn : ns.length ≤ 17592186044416) (h0 : 0 < ns.length) :
  ∀ ww, Mem w0 Ow b r d m p f tv ns dg x ww → Calls Tryz.prog 47 #[.pointer (some ⟨b, 1, none⟩), .int .u8 c.toNat, .int .i64 1] ww fun e w' => e = .returned (.tuple #[]) ∧ ∃ tv', Mem w0 Ow b r d m p f tv' (ns ++ [c]) dg x w' := by
 intro ww M
 refine Calls.mono (mKeep_ins b r d tv dg c.toNat ns.length _ ww M.bd (fun e => by have := (M.tl b e).1; omega) M.ty hn h0) ?_
 rintro e w' ⟨rfl, tv', h1, h2, h3, h4⟩
 exact ⟨rfl, tv', M.keep X h1 h2 h3 h4⟩
theorem Mem.nil {w0 : World} {Ow : List Nat} {b r d m : Nat} {p : Pg} {f : Int → Value} {tv : Value} {dg : ByteArray} {x : Hst} {ww : World} (M : Mem w0 Ow b r d m p f tv [] dg x ww) : ∃ a cap, tv = .slice a 0 cap := by
 rcases M.ty.2 with ⟨e, _⟩ | ⟨g, cap, cur, e, _⟩
 ·exact ⟨_, _, e⟩
 ·exact ⟨_, _, e⟩
theorem kp0 {w0 : World} {Ow : List Nat} {b r d m : Nat} {p : Pg} {f : Int → Value} {tv : Value} {dg : ByteArray} {x : Hst} (c : UInt8) (mode : Int) (hm : mode = 1 ∨ mode = 2 ∨ mode = 3) :
  ∀ ww, Mem w0 Ow b r d m p f tv [] dg x ww → Calls Tryz.prog 47 #[.pointer (some ⟨b, 1, none⟩), .int .u8 c.toNat, .int .i64 mode] ww fun e w' => e = .returned (.tuple #[]) ∧ ∃ tv', Mem w0 Ow b r d m p f tv' [] dg x w' := by
 intro ww M
 rcases hm with hm | hm
 ·subst hm
  obtain ⟨a, cap, e⟩ := M.nil
  have M2 := M
  subst e
  refine Calls.mono (mKeep_insNo b r d a cap dg c.toNat ww M.bd) ?_
  rintro e w' ⟨rfl, hb⟩
  exact ⟨rfl, _, Mem.firm _ _ M2 hb⟩
 ·refine Calls.mono (mKeep_not b r d tv dg c.toNat mode ww M.bd hm) ?_
  rintro e w' ⟨rfl, hb⟩
  exact ⟨rfl, _, Mem.firm _ _ M hb⟩
theorem Mem.ended {w0 : World} {Ow : List Nat} {b r d m : Nat} {p : Pg} {f : Int → Value} {tv : Value} {ns : List UInt8} {dg dg' : ByteArray} {x : Hst} {ww w' : World} (M : Mem w0 Ow b r d m p f tv ns dg x ww) (X : Fix w0 Ow b r d m) (hb : BdAt w' b r d (.slice none 0 0) dg') (hu : Upd [b] ww w') : Mem w0 Ow b r d m p f (.slice none 0 0) [] dg' x w' := by
 have lb := X.lb
 have n1 : ∀ k, k ∈ [b] → p.back.ownBlock ≠ some k := by
  intro k hk e; simp at hk; have := (M.bl k e).1; omega
 have n2 : ∀ k, k ∈ [b] → p.forth.ownBlock ≠ some k := by
  intro k hk e; simp at hk; have := (M.fl k e).1; omega
 exact ⟨hb, M.rd.upd hu (by simp [X.ly.br.symm]) (by simp [X.ly.bd.symm]), M.rg.upd hu (by simp [X.ly.mb]), World.ownsRow_nil _ _ _ _, ownsRow_upd M.bk hu n1, ownsRow_upd M.fo hu n2, (fun k hk => by simp [Value.ownBlock] at hk), M.bl, M.fl, (fun k hk => by simp [Value.ownBlock] at hk), (fun k hk => by simp [Value.ownBlock] at hk), M.bf, updMore M.up hu (by intro k hk; left; simp at hk; simp [hk])⟩
theorem nums_str (ns : List UInt8) : strOfNums (ns.map (fun c => (c.toNat : Int))) = ⟨ns.toArray⟩ := by
 unfold strOfNums
 rw [List.map_map]
 have h : ((fun n : Int => UInt8.ofNat n.toNat) ∘ fun c : UInt8 => (c.toNat : Int)) = id := by
  funext c
  simp
 rw [h, List.map_id]
theorem en {w0 : World} {Ow : List Nat} {b r d m : Nat} (X : Fix w0 Ow b r d m) {p : Pg} {f : Int → Value} {tv : Value} {ns : List UInt8} {dg : ByteArray} {x : Hst} (O : Int) :
  ∀ ww, Mem w0 Ow b r d m p f tv ns dg x ww → Calls Tryz.prog 48 #[.pointer (some ⟨b, 1, none⟩), .int .i64 O] ww fun e w' => e = .returned (.tuple #[]) ∧ Mem w0 Ow b r d m p f (.slice none 0 0) [] (if O = 2 ∧ 0 < ns.length then ⟨ns.toArray⟩ else dg) x w' := by
 intro ww M
 by_cases h0 : 0 < ns.length
 ·by_cases hO : O = 2
  ·rw [if_pos ⟨hO, h0⟩]
   obtain ⟨g, cap, e, _⟩ := owned_some M.ty h0
   have M2 := M
   subst e
   subst hO
   have := mEnd_did b r d g ns.length cap (ns.map (fun c => (c.toNat : Int))) dg ww M.bd (by have := M.ty; simpa [Function.comp_def] using this) h0 qi
   rw [nums_str] at this
   refine Calls.mono this ?_
   rintro e w' ⟨rfl, h1, h2⟩
   exact ⟨rfl, M2.ended X h1 h2⟩
  ·rw [if_neg (fun h => hO h.1)]
   refine Calls.mono (mEnd b r d tv dg O ww M.bd hO) ?_
   rintro e w' ⟨rfl, h1, h2⟩
   exact ⟨rfl, M.ended X h1 h2⟩
 ·rw [if_neg (fun h => h0 h.2)]
  have hns : ns = [] := by cases ns with
   | nil => rfl
   | cons a l => simp at h0
  subst hns
  obtain ⟨a, cap, e⟩ := M.nil
  have M2 := M
  subst e
  refine Calls.mono (mEnd_no b r d a cap dg O ww M.bd) ?_
  rintro e w' ⟨rfl, h1, h2⟩
  exact ⟨rfl, M2.ended X h1 h2⟩
def orgT : ByteArray → List Stp → ByteArray
 | t, [] => t
 | t, s :: R => orgT (app t s) R
theorem orgT_keep (t now : ByteArray) (R : List Stp) : orgT t (mkS t now :: R) = orgT now R := by
 show orgT (app t (mkS t now)) R = _
 rw [app_mkS]
theorem orgT_wlk1 (x : Hst) : orgT (wlk1 x).1 (wlk1 x).2.1 = orgT x.1 x.2.1 := by
 rcases x with ⟨t, R, F⟩
 cases R <;> rfl
theorem orgT_wlkN (x : Hst) (n : Nat) : orgT (wlkN n x).1 (wlkN n x).2.1 = orgT x.1 x.2.1 := by
 induction n with
 | zero => rfl
 | succ n ih => exact (orgT_wlk1 _).trans ih
theorem orgT_swp1 (z : Hst) : orgT (wlk1 z).1 (wlk1 z).2.2.reverse = orgT z.1 z.2.2.reverse := by
 rcases z with ⟨t, R, F⟩
 cases R with
 | nil => rfl
 | cons s R =>
  show orgT (app t s) (F ++ [mkS (app t s) t]).reverse = orgT t F.reverse
  rw [List.reverse_append]
  exact orgT_keep _ _ _
theorem orgT_swpN (z : Hst) (n : Nat) : orgT (wlkN n z).1 (wlkN n z).2.2.reverse = orgT z.1 z.2.2.reverse := by
 induction n with
 | zero => rfl
 | succ n ih => exact (orgT_swp1 _).trans ih
def kpx (p : Pg) (x : Hst) : Hst := if p.t = p.now then x else (p.t, mkS p.t p.now :: x.2.1, [])
theorem orgT_kpx (p : Pg) (x : Hst) (h : p.now = x.1) : orgT (kpx p x).1 (kpx p x).2.1 = orgT x.1 x.2.1 := by
 unfold kpx
 split
 ·rfl
 ·rw [h]; exact orgT_keep _ _ _
theorem kpx_len (p : Pg) (x : Hst) : (kpx p x).2.1.length + (kpx p x).2.2.length ≤ x.2.1.length + x.2.2.length + 1 := by
 unfold kpx
 split
 ·omega
 ·simp
theorem hk {w0 : World} {Ow : List Nat} {b r d m : Nat} (X : Fix w0 Ow b r d m) (p : Pg) {f : Int → Value} {dg : ByteArray} {x : Hst} {N : Nat} (hg : GoodC m p) (ho : HOk p x N) (hN : N ≤ 100000) :
  ∀ ww, Mem w0 Ow b r d m p f (.slice none 0 0) [] dg x ww → Calls Tryz.prog 49 #[.pointer (some ⟨d, 5, none⟩), .string p.t] ww fun e w' => e = .returned (.tuple #[]) ∧ ∃ bk fo, HOk { p with now := p.t, back := bk, forth := fo } (kpx p x) (N + 1) ∧ Mem w0 Ow b r d m { p with now := p.t, back := bk, forth := fo } f (.slice none 0 0) [] dg (kpx p x) w' := by
 intro ww M
 have lb := X.lb; have lr := X.lr; have ld := X.ld; have lm := X.lm
 by_cases e : p.t = p.now
 ·refine Calls.mono (hKeep_same r d p ww M.rd e.symm) ?_
  rintro e1 w' ⟨rfl, hb⟩
  have hp : ({ p with now := p.t, back := p.back, forth := p.forth } : Pg) = p := by cases p; simp only at e; subst e; rfl
  have hx : kpx p x = x := if_pos e
  refine ⟨rfl, p.back, p.forth, ?_, ?_⟩ <;> rw [hx]
  ·rw [hp]; exact ⟨ho.now, ho.z, ho.b, ho.f, Nat.le_succ_of_le ho.n⟩
  ·rw [hp]; exact Mem.firm _ _ M hb
 ·have hz : p.now.size ≤ 1000 := by rw [ho.now]; exact ho.z
  refine Calls.mono (hKeep_new r d p x.2.1.length _ ww M.rd M.bk (fun e => by have := (M.bl d e).1; omega) (fun e => by have := (M.bl r e).1; omega) (by have := ho.n; omega) e hg.ts hz) ?_
  rintro e1 w' ⟨rfl, g, cap, R, O, F, U⟩
  have hw0 := M.up.size
  have hg0 : Free w0 Ow b r d m g := by
   rcases F with h | h
   ·exact M.bl g h
   ·exact X.fresh qo
  have nb : ∀ k, (k = b ∨ k = r ∨ k = d ∨ k = m) → ¬ k = d → k ∉ d :: own p.back := by
   intro k hz hzd hk
   rcases List.mem_cons.1 hk with e | e
   ·exact hzd e
   ·have := (M.bl k (mem_own.1 e)).1; omega
  have hx : kpx p x = (p.t, mkS p.t p.now :: x.2.1, []) := if_neg e
  refine ⟨rfl, .slice (some ⟨g, 0, none⟩) (x.2.1.length + 1) cap, .slice none 0 0, ?_, ?_⟩ <;> rw [hx]
  ·refine ⟨rfl, hg.ts, ?_, trivial, by have := ho.n; simp; omega⟩
   have := ho.b
   rw [← ho.now] at this
   exact OkS.keep this hg.ts hz
  ·refine ⟨M.bd.upd U (nb b qi X.ly.bd), R, M.rg.upd U (nb m qi X.ly.md), World.ownsRow_nil _ _ _ _, ?_, World.ownsRow_nil _ _ _ _, (fun k hk => by simp [Value.ownBlock] at hk), ?_, (fun k hk => by simp [Value.ownBlock] at hk), (fun k hk => by simp [Value.ownBlock] at hk), (fun k hk => by simp [Value.ownBlock] at hk), (fun k hk => by simp [Value.ownBlock]), updMore M.up U ?_⟩
   ·have : celS (mkS p.t p.now :: x.2.1).reverse = celS x.2.1.reverse ++ stp p.t p.now := by
     rw [List.reverse_cons, celS_app, celS_mk]
    show w'.ownsRow 0 130 3 _ (x.2.1.length + 1) (celS (mkS p.t p.now :: x.2.1).reverse)
    rw [this]
    exact O
   ·intro k hk
    have : g = k := by simpa [Value.ownBlock] using hk
    subst this
    exact hg0
   ·intro k hk
    rcases List.mem_cons.1 hk with e | e
    ·left; simp [e]
    ·exact (M.bl k (mem_own.1 e)).in
def InsP (ns : List UInt8) : Prop := ∃ us c js q, ns = us ++ c :: js ∧ runK bg0 us = some q ∧ okK q (c.toNat : Int) ∧ nxt q (c.toNat : Int) = none ∧ insK q (c.toNat : Int) ∧ ∀ k, k ∈ js → ¬ (k.toNat : Int) = 27
def TyOk (p : Pg) (ns : List UInt8) : Prop := (p.mode = 0 ∧ runK bg0 ns = some (bg p)) ∨ (p.mode = 1 ∧ (ns = [] ∨ InsP ns)) ∨ ((p.mode = 2 ∨ p.mode = 3) ∧ ns = [])
structure Inv (t0 : ByteArray) (m N : Nat) (p : Pg) (f : Int → Value) (ns : List UInt8) (dg : ByteArray) (x : Hst) : Prop where
 g : GoodC m p
 b : GoodB p
 f : GoodF f
 h : HOk p x N
 n : ns.length ≤ N
 t : ¬ p.mode = 1 → p.t = p.now
 y : TyOk p ns
 d : DoOk dg
 z : dg.size ≤ N
 o : orgT x.1 x.2.1 = t0
 q : p.mode = 1 → x.2.1.length + x.2.2.length + 1 ≤ N
def StS (t0 : ByteArray) (w0 : World) (Ow : List Nat) (b r d m N : Nat) (ww : World) : Prop := ∃ p f tv ns dg x, Inv t0 m N p f ns dg x ∧ Mem w0 Ow b r d m p f tv ns dg x ww
def StF (t0 : ByteArray) (w0 : World) (Ow : List Nat) (b r d m N : Nat) (p : Pg) (f : Int → Value) (x : Hst) (ww : World) : Prop := ∃ tv ns dg, Inv t0 m N p f ns dg x ∧ Mem w0 Ow b r d m p f tv ns dg x ww
def StX (t0 : ByteArray) (w0 : World) (Ow : List Nat) (b r d m N : Nat) (p : Pg) (x : Hst) (ww : World) : Prop := ∃ f tv ns dg, Inv t0 m N p f ns dg x ∧ Mem w0 Ow b r d m p f tv ns dg x ww
def StZ (t0 : ByteArray) (w0 : World) (Ow : List Nat) (b r d m N : Nat) (ww : World) : Prop := ∃ p f tv ns dg x, Inv t0 m N p f ns dg x ∧ Mem w0 Ow b r d m p f tv ns dg x ww ∧ p.mode = 0 ∧ p.none' = p
theorem bg_none {p : Pg} (h : p.none' = p) : bg p = bg0 := by rw [← h]; rfl
theorem do_normal {p : Pg} {ns : List UInt8} {c : UInt8} (hr : runK bg0 ns = some (bg p)) (hk : okK p (c.toNat : Int)) (hn : nxt p (c.toNat : Int) = none) (hi : ¬ insK p (c.toNat : Int)) : DoOk ⟨(ns ++ [c]).toArray⟩ :=
 Or.inr ⟨ns ++ [c], rfl, by simp, fun p2 hm h2 => Or.inl ⟨hm, ns, c, [], bg p, rfl, by rw [bg_none h2]; exact hr, hk, by rw [nxt_bg, hn]; rfl, Or.inl ⟨hi, rfl⟩⟩⟩
theorem do_insert {ns : List UInt8} (h : InsP ns) : DoOk ⟨(ns ++ [27]).toArray⟩ := by
 obtain ⟨us, c, js, q, h1, h2, h3, h4, h5, h6⟩ := h
 exact Or.inr ⟨ns ++ [27], rfl, by simp, fun p2 hm hn => Or.inl ⟨hm, us, c, js ++ [27], q, by rw [h1]; simp, by rw [bg_none hn]; exact h2, h3, h4, Or.inr ⟨h5, js, rfl, h6⟩⟩⟩
structure Fct (t0 : ByteArray) (m N : Nat) (ns2 : List UInt8) (Z : Prop) (s : Int × Pg × (Int → Value) × Hst) : Prop where
 o : s.1 = 1 ∨ s.1 = 2 ∨ s.1 = 4
 g : GoodC m s.2.1
 f : GoodF s.2.2.1
 n : s.2.1.none' = s.2.1
 m : ¬ s.2.1.mode = 1
 h : HOk s.2.1 s.2.2.2 N
 d : s.1 = 2 → 0 < ns2.length → DoOk ⟨ns2.toArray⟩
 z : Z → s.2.1.mode = 0
 r : orgT s.2.2.2.1 s.2.2.2.2.1 = t0
theorem nn_with {q : Pg} {t : ByteArray} {bk fo : Value} (h : q.none' = q) : ({ q with now := t, back := bk, forth := fo } : Pg).none' = { q with now := t, back := bk, forth := fo } := congrArg (fun q : Pg => { q with now := t, back := bk, forth := fo }) h
theorem sEnd (K : Int → Pg → (Int → Value) → Hst → Prop) {t0 : ByteArray} {w0 : World} {Ow : List Nat} {b r d m : Nat} (X : Fix w0 Ow b r d m) {p : Pg} {f : Int → Value} {tv : Value} {ns : List UInt8} {dg : ByteArray} {x : Hst} {N : Nat} (c : UInt8) (inv : Inv t0 m N p f ns dg x) (hN : N ≤ 90000) (ns2 : List UInt8) (hns : ns2.length ≤ N + 1)
  (KP : ∀ {p2 : Pg} {f2 : Int → Value} {x2 : Hst} ww, Mem w0 Ow b r d m p2 f2 tv ns dg x2 ww → Calls Tryz.prog 47 #[.pointer (some ⟨b, 1, none⟩), .int .u8 c.toNat, .int .i64 p.mode] ww fun e w' => e = .returned (.tuple #[]) ∧ ∃ tv', Mem w0 Ow b r d m p2 f2 tv' ns2 dg x2 w')
  (HT : ∀ ww, Mem w0 Ow b r d m p f tv ns dg x ww → Calls Tryz.prog 46 #[.pointer (some ⟨b, 0, none⟩), .int .u8 c.toNat] ww fun e w' => ∃ s : Int × Pg × (Int → Value) × Hst, e = .returned (.int .i64 s.1) ∧ Fct t0 m N ns2 ((c.toNat : Int) = 27) s ∧ Mem w0 Ow b r d m s.2.1 s.2.2.1 tv ns dg s.2.2.2 w' ∧ K s.1 s.2.1 s.2.2.1 s.2.2.2) :
  ∀ ww, Mem w0 Ow b r d m p f tv ns dg x ww → Calls Tryz.prog 38 #[.pointer (some ⟨b, 0, none⟩), .int .u8 c.toNat] ww fun e w' => ∃ (O : Int) (q : Pg) (f2 : Int → Value) (y : Hst) (bk fo : Value), e = .returned (.int .i64 O) ∧ StF t0 w0 Ow b r d m (N + 1) { q with now := q.t, back := bk, forth := fo } f2 (kpx q y) w' ∧ K O q f2 y ∧ q.none' = q ∧ ((c.toNat : Int) = 27 → q.mode = 0) := by
 intro ww M
 refine Calls.mono (press_endS (σ := Int × Pg × (Int → Value) × Hst) b r d p c.toNat (fun s => s.1) (fun s => s.2.1.t) (Mem w0 Ow b r d m p f tv ns dg x)
  (fun s w2 => (Fct t0 m N ns2 ((c.toNat : Int) = 27) s ∧ K s.1 s.2.1 s.2.2.1 s.2.2.2) ∧ Mem w0 Ow b r d m s.2.1 s.2.2.1 tv ns dg s.2.2.2 w2)
  (fun s w2 => (Fct t0 m N ns2 ((c.toNat : Int) = 27) s ∧ K s.1 s.2.1 s.2.2.1 s.2.2.2) ∧ ∃ tv', Mem w0 Ow b r d m s.2.1 s.2.2.1 tv' ns2 dg s.2.2.2 w2)
  (fun s w2 => (Fct t0 m N ns2 ((c.toNat : Int) = 27) s ∧ K s.1 s.2.1 s.2.2.1 s.2.2.2) ∧ Mem w0 Ow b r d m s.2.1 s.2.2.1 (.slice none 0 0) [] (if s.1 = 2 ∧ 0 < ns2.length then ⟨ns2.toArray⟩ else dg) s.2.2.2 w2)
  (fun s w2 => (Fct t0 m N ns2 ((c.toNat : Int) = 27) s ∧ K s.1 s.2.1 s.2.2.1 s.2.2.2) ∧ ∃ bk fo, HOk { s.2.1 with now := s.2.1.t, back := bk, forth := fo } (kpx s.2.1 s.2.2.2) (N + 1) ∧ Mem w0 Ow b r d m { s.2.1 with now := s.2.1.t, back := bk, forth := fo } s.2.2.1 (.slice none 0 0) [] (if s.1 = 2 ∧ 0 < ns2.length then ⟨ns2.toArray⟩ else dg) (kpx s.2.1 s.2.2.2) w2)
  ww M (fun _ h => ⟨⟨_, _, h.bd⟩, h.rd⟩) (fun s w2 h => ⟨_, _, h.2.bd⟩) ?_ (fun s w2 h => ⟨_, _, _, h.2.bd, h.2.rd, rfl⟩) ?_ (fun s w2 h => ⟨h.1, Mem.firm _ _ h.2 ((Below.refl _ _).drew)⟩) ?_ ?_ ?_ ?_) ?_
 ·rintro s w2 ⟨h1, tv', h2⟩
  exact ⟨_, _, _, h2.bd, h2.rd, h1.1.m⟩
 ·rintro s w2 ⟨h1, bk, fo, h2, h3⟩
  exact ⟨⟨_, _, h3.bd⟩, h3.rd.bg.c0, h3.rd.dk.c0⟩
 ·intro w2 M2
  refine Calls.mono (HT w2 M2) ?_
  rintro e w' ⟨s, rfl, h1, h2, hK⟩
  exact ⟨s, rfl, by have := h1.o; show ¬ s.1 = 0; omega, ⟨h1, hK⟩, h2⟩
 ·intro s w2 h
  refine Calls.mono (KP w2 h.2) ?_
  rintro e w' ⟨rfl, tv', h2⟩
  exact ⟨rfl, h.1, tv', h2⟩
 ·rintro s w2 ⟨h1, tv', h2⟩
  refine Calls.mono (en X s.1 w2 h2) ?_
  rintro e w' ⟨rfl, h3⟩
  exact ⟨rfl, h1, h3⟩
 ·intro s w2 h
  refine Calls.mono (hk X s.2.1 h.1.1.g h.1.1.h qo w2 h.2) ?_
  rintro e w' ⟨rfl, bk, fo, h3, h4⟩
  exact ⟨rfl, h.1, bk, fo, h3, h4⟩
 ·rintro e w' ⟨s, rfl, ⟨h1, hK⟩, bk, fo, h2, h3⟩
  have hq : ({ s.2.1 with now := s.2.1.t, back := bk, forth := fo } : Pg).none' = { s.2.1 with now := s.2.1.t, back := bk, forth := fo } := congrArg (fun q : Pg => { q with now := s.2.1.t, back := bk, forth := fo }) h1.n
  have hg := h1.g
  refine ⟨s.1, s.2.1, s.2.2.1, s.2.2.2, bk, fo, rfl, ⟨_, [], _, ?_, h3⟩, hK, h1.n, h1.z⟩
  refine ⟨⟨hg.ts, hg.pl, hg.st, hg.an, hg.mo, hg.n, hg.bh, hg.fd, hg.rg⟩, hq ▸ GoodB.none _, h1.f, h2, Nat.zero_le _, fun _ => rfl, ?_, ?_, ?_, (orgT_kpx _ _ h1.h.now).trans h1.r, fun h => absurd h h1.m⟩
  ·by_cases hm : s.2.1.mode = 0
   ·exact Or.inl ⟨hm, by rw [bg_none hq]; rfl⟩
   ·have := hg.mo
    have := h1.m
    exact Or.inr (Or.inr ⟨by show s.2.1.mode = 2 ∨ s.2.1.mode = 3; omega, rfl⟩)
  ·split
   ·next h => exact h1.d h.1 h.2
   ·exact inv.d
  ·split
   ·show ns2.toArray.size ≤ N + 1
    simpa using hns
   ·have := inv.z; omega
theorem Inv.more {t0 : ByteArray} {m N : Nat} {p : Pg} {f : Int → Value} {ns : List UInt8} {dg : ByteArray} {x : Hst} (h : Inv t0 m N p f ns dg x) {p2 : Pg} {f2 : Int → Value} {ns2 : List UInt8} (hg : GoodC m p2) (hb : GoodB p2) (hf : GoodF f2) (e : p2.now = p.now) (hn : ns2.length ≤ N + 1) (ht : ¬ p2.mode = 1 → p2.t = p2.now) (hy : TyOk p2 ns2) : Inv t0 m (N + 1) p2 f2 ns2 dg x :=
 ⟨hg, hb, hf, ⟨e.trans h.h.now, h.h.z, h.h.b, h.h.f, Nat.le_succ_of_le h.h.n⟩, hn, ht, hy, h.d, Nat.le_succ_of_le h.z, h.o, fun _ => by have := h.h.n; omega⟩
theorem sGoP {t0 : ByteArray} {w0 : World} {Ow : List Nat} {b r d m : Nat} {p p2 : Pg} {f f2 : Int → Value} {tv : Value} {ns ns2 : List UInt8} {dg : ByteArray} {x : Hst} {N : Nat} (c : UInt8) (k27 : ¬ (c.toNat : Int) = 27) (O : Int) (hO : O = 0 ∨ (¬ O = 0 ∧ p2.mode = 1)) (inv2 : Inv t0 m (N + 1) p2 f2 ns2 dg x)
  (KP : ∀ ww, Mem w0 Ow b r d m p2 f2 tv ns dg x ww → Calls Tryz.prog 47 #[.pointer (some ⟨b, 1, none⟩), .int .u8 c.toNat, .int .i64 p.mode] ww fun e w' => e = .returned (.tuple #[]) ∧ ∃ tv', Mem w0 Ow b r d m p2 f2 tv' ns2 dg x w')
  (HT : ∀ ww, Mem w0 Ow b r d m p f tv ns dg x ww → Calls Tryz.prog 46 #[.pointer (some ⟨b, 0, none⟩), .int .u8 c.toNat] ww fun e w' => e = .returned (.int .i64 O) ∧ Mem w0 Ow b r d m p2 f2 tv ns dg x w') :
  ∀ ww, Mem w0 Ow b r d m p f tv ns dg x ww → Calls Tryz.prog 38 #[.pointer (some ⟨b, 0, none⟩), .int .u8 c.toNat] ww fun e w' => ∃ (O : Int) (p2 : Pg) (x2 : Hst), e = .returned (.int .i64 O) ∧ StX t0 w0 Ow b r d m (N + 1) p2 x2 w' ∧ ((c.toNat : Int) = 27 → p2.mode = 0 ∧ p2.none' = p2 ∧ (p.mode = 1 → x2.2.1.length + x2.2.2.length ≤ x.2.1.length + x.2.2.length + 1) ∧ (¬ p.mode = 1 → x2 = x ∧ p2.t = p.t)) := by
 intro ww M
 rcases hO with hO | ⟨hO, hm⟩
 ·subst hO
  refine Calls.mono (press_go b r d p c.toNat (Mem w0 Ow b r d m p f tv ns dg x) (Mem w0 Ow b r d m p2 f2 tv ns dg x) (fun w' => ∃ tv', Mem w0 Ow b r d m p2 f2 tv' ns2 dg x w') ww M (fun _ h => ⟨⟨_, _, h.bd⟩, h.rd⟩) (fun _ h => ⟨_, _, h.bd⟩) HT KP) ?_
  rintro e w' ⟨rfl, tv', h⟩
  exact ⟨0, _, _, rfl, ⟨_, _, _, _, inv2, h⟩, fun e => absurd e k27⟩
 ·refine Calls.mono (press_ins b r d p p2 c.toNat O (Mem w0 Ow b r d m p f tv ns dg x) (Mem w0 Ow b r d m p2 f2 tv ns dg x) (fun w' => ∃ tv', Mem w0 Ow b r d m p2 f2 tv' ns2 dg x w') ww M (fun _ h => ⟨⟨_, _, h.bd⟩, h.rd⟩) (fun _ h => ⟨_, _, h.bd⟩) (fun _ h => by obtain ⟨tv', h⟩ := h; exact ⟨⟨_, _, h.bd⟩, h.rd⟩) hO hm HT KP) ?_
  rintro e w' ⟨rfl, tv', h⟩
  exact ⟨O, _, _, rfl, ⟨_, _, _, _, inv2, h⟩, fun e => absurd e k27⟩
theorem HOk.of {p p2 : Pg} {x : Hst} {N : Nat} (h : HOk p x N) (e : p2.now = p.now) : HOk p2 x N := ⟨e.trans h.now, h.z, h.b, h.f, h.n⟩
theorem qt76 {P : Prop} (h : P := by
  rintro e w' ⟨rfl, h⟩
  exact ⟨(1, { p.none' with mode := 0, anchor := 0 }, f, x), rfl, ⟨Or.inl rfl, escN inv.g hm1, inv.f, rfl, by show ¬ (0 : Int) = 1; decide, inv.h.of rfl, (fun h => absurd h (by show ¬ (1 : Int) = 2; decide)), fun _ => rfl, inv.o⟩, h, fun _ => ⟨rfl, rfl, rfl⟩⟩
 ) : P := h
theorem sPressX (HA : AnyOk) {t0 : ByteArray} {w0 : World} {Ow : List Nat} {b r d m : Nat} (X : Fix w0 Ow b r d m) {N : Nat} (c : UInt8) (hN : N ≤ 90000) (p : Pg) (x : Hst) : ∀ ww, StX t0 w0 Ow b r d m N p x ww →
  Calls Tryz.prog 38 #[.pointer (some ⟨b, 0, none⟩), .int .u8 c.toNat] ww fun e w' => ∃ (O : Int) (p2 : Pg) (x2 : Hst), e = .returned (.int .i64 O) ∧ StX t0 w0 Ow b r d m (N + 1) p2 x2 w' ∧ ((c.toNat : Int) = 27 → p2.mode = 0 ∧ p2.none' = p2 ∧ (p.mode = 1 → x2.2.1.length + x2.2.2.length ≤ x.2.1.length + x.2.2.length + 1) ∧ (¬ p.mode = 1 → x2 = x ∧ p2.t = p.t)) := by
 rintro ww ⟨f, tv, ns, dg, inv, M⟩
 have hn := inv.n
 have ln : (ns ++ [c]).length ≤ N + 1 := by simp; omega
 have FIN : ∀ (e : Ending) (w' : World), (∃ (O : Int) (q : Pg) (f2 : Int → Value) (y : Hst) (bk fo : Value), e = .returned (.int .i64 O) ∧ StF t0 w0 Ow b r d m (N + 1) { q with now := q.t, back := bk, forth := fo } f2 (kpx q y) w' ∧ ((c.toNat : Int) = 27 → y = x ∧ q.t = p.t ∧ q.now = p.now) ∧ q.none' = q ∧ ((c.toNat : Int) = 27 → q.mode = 0)) → ∃ (O : Int) (p2 : Pg) (x2 : Hst), e = .returned (.int .i64 O) ∧ StX t0 w0 Ow b r d m (N + 1) p2 x2 w' ∧ ((c.toNat : Int) = 27 → p2.mode = 0 ∧ p2.none' = p2 ∧ (p.mode = 1 → x2.2.1.length + x2.2.2.length ≤ x.2.1.length + x.2.2.length + 1) ∧ (¬ p.mode = 1 → x2 = x ∧ p2.t = p.t)) := by
  rintro e w' ⟨O, q, f2, y, bk, fo, h1, h2, h3, h5, h6⟩
  refine ⟨O, _, kpx q y, h1, ⟨f2, h2⟩, fun k => ?_⟩
  obtain ⟨rfl, a, b'⟩ := h3 k
  refine ⟨h6 k, nn_with h5, fun _ => kpx_len q y, fun hm => ⟨?_, a⟩⟩
  exact if_pos (by rw [a, b']; exact inv.t hm)
 rcases inv.g.mo with hm | hm | hm
 ·
  have hm1 : ¬ p.mode = 1 := by rw [hm]; decide
  have hr : runK bg0 ns = some (bg p) := by
   rcases inv.y with h | h | h
   ·exact h.2
   ·exact absurd h.1 hm1
   ·have := h.1; omega
  have KP : ∀ {p2 : Pg} {f2 : Int → Value} {x2 : Hst} w2, Mem w0 Ow b r d m p2 f2 tv ns dg x2 w2 → Calls Tryz.prog 47 #[.pointer (some ⟨b, 1, none⟩), .int .u8 c.toNat, .int .i64 p.mode] w2 fun e w' => e = .returned (.tuple #[]) ∧ ∃ tv', Mem w0 Ow b r d m p2 f2 tv' (ns ++ [c]) dg x2 w' := by
   intro p2 f2 x2 w2 M2
   rw [hm]
   exact kpN X c qo w2 M2
  by_cases k27 : (c.toNat : Int) = 27
  ·refine Calls.mono (sEnd (fun _ q _ y => (c.toNat : Int) = 27 → y = x ∧ q.t = p.t ∧ q.now = p.now) X c inv hN (ns ++ [c]) ln KP (fun w2 M2 => ?_) ww M) FIN
   rw [k27]
   refine Calls.mono (tkX X p f tv ns dg x inv.g hm1 w2 M2) ?_
   exact qt76
  by_cases hx : p.verb = 0 → p.part = 0 → ¬ (c.toNat : Int) = 117 ∧ ¬ (c.toNat : Int) = 18 ∧ ¬ (c.toNat : Int) = 46
  ·rcases tkN HA X p f tv ns dg x c inv.g inv.b inv.f hm k27 hx with ⟨p2, h1, h2, h3, h4, h5⟩ | ⟨h1, O, p2, f2, g1, g2, g3, g4, g5, g6, g7, g8⟩
   ·obtain ⟨a1, a2, a3, a4, a5, e⟩ := h4
    have e1 : p2.mode = p.mode := by rw [e]
    have e2 : p2.t = p.t := by rw [e]
    have e3 : p2.now = p.now := by rw [e]
    exact sGoP c k27 0 (Or.inl rfl) (inv.more h2 h3 inv.f e3 ln (fun _ => by rw [e2, e3]; exact inv.t hm1) (Or.inl ⟨e1.trans hm, by rw [runK_add, hr]; show nxt (bg p) (c.toNat : Int) = _; rw [nxt_bg, h1]; rfl⟩)) KP h5.out ww M
   ·by_cases hp2 : p2.mode = 1
    ·have hO4 : ¬ O = 4 := fun e => hm1 (by rw [← g6 e]; exact hp2)
     refine sGoP c k27 O (Or.inr ⟨by omega, hp2⟩) (inv.more g2 (g4 ▸ GoodB.none p2) g3 g5.1 ln (fun h => absurd hp2 h) (Or.inr (Or.inl ⟨hp2, Or.inr ⟨ns, c, [], bg p, rfl, hr, ⟨k27, hx⟩, by rw [nxt_bg, h1]; rfl, (g7 hO4).1 hp2, by simp⟩⟩))) KP g8.out ww M
    ·refine Calls.mono (sEnd (fun _ q _ y => (c.toNat : Int) = 27 → y = x ∧ q.t = p.t ∧ q.now = p.now) X c inv hN (ns ++ [c]) ln KP (fun w2 M2 => ?_) ww M) FIN
     refine Calls.mono (g8.out w2 M2) ?_
     rintro e w' ⟨rfl, h⟩
     exact ⟨(O, p2, f2, x), rfl, ⟨g1, g2, g3, g4, hp2, inv.h.of g5.1, (fun e _ => do_normal hr ⟨k27, hx⟩ h1 (fun hi => hp2 ((g7 (by have : O = 2 := e; omega)).2 hi))), fun e => absurd e k27, inv.o⟩, h, fun e => absurd e k27⟩
  ·have hv : p.verb = 0 := by
    rcases isVb_or inv.b with h | h
    ·exact h
    ·exact absurd (fun e => absurd e (vb_flags h).2) hx
   have hp : p.part = 0 := by
    by_cases h : p.part = 0
    ·exact h
    ·exact absurd (fun _ e => absurd e h) hx
   have hk3 : (c.toNat : Int) = 117 ∨ (c.toNat : Int) = 18 ∨ (c.toNat : Int) = 46 := by
    by_cases h1 : (c.toNat : Int) = 117
    ·exact Or.inl h1
    ·by_cases h2 : (c.toNat : Int) = 18
     ·exact Or.inr (Or.inl h2)
     ·by_cases h3 : (c.toNat : Int) = 46
      ·exact Or.inr (Or.inr h3)
      ·exact absurd (fun _ _ => ⟨h1, h2, h3⟩) hx
   have wt : ∀ (pq : Pg) (y : Hst) w', orgT y.1 y.2.1 = t0 → WentN w0 Ow b r d m f tv ns dg pq y N w' → ∀ O : Int, (O = 1 ∨ O = 4) → ∃ s : Int × Pg × (Int → Value) × Hst, O = s.1 ∧ Fct t0 m N (ns ++ [c]) ((c.toNat : Int) = 27) s ∧ Mem w0 Ow b r d m s.2.1 s.2.2.1 tv ns dg s.2.2.2 w' := by
    rintro pq y w' hy ⟨p2, _, h1, h2, h3, h4, h5, h6⟩ O hO
    exact ⟨(O, p2, f, y), rfl, ⟨by show O = 1 ∨ O = 2 ∨ O = 4; omega, h1, inv.f, h2, by rw [h3]; decide, h5, (fun e => by have : O = 2 := e; omega), fun e => absurd e k27, hy⟩, h6⟩
   refine Calls.mono (sEnd (fun _ q _ y => (c.toNat : Int) = 27 → y = x ∧ q.t = p.t ∧ q.now = p.now) X c inv hN (ns ++ [c]) ln KP (fun w2 M2 => ?_) ww M) FIN
   rcases hk3 with hk | hk | hk
   ·have T := tkU X p f tv ns dg x N inv.g hm hv hp (inv.t hm1) inv.h qo w2 M2
    rw [← hk] at T
    refine Calls.mono T ?_
    rintro e w' ⟨rfl, h⟩
    obtain ⟨s, e1, e2, e3⟩ := wt _ _ w' ((orgT_wlkN x _).trans inv.o) h (if x.2.1.length = 0 then 4 else 1) (by split <;> simp)
    exact ⟨s, by rw [e1], e2, e3, fun e => absurd e k27⟩
   ·have T := tkRe X p f tv ns dg (swp x) N inv.g hm hv hp (inv.t hm1) (by rw [swp_swp]; exact inv.h) qo w2 (by rw [swp_swp]; exact M2)
    rw [← hk] at T
    refine Calls.mono T ?_
    rintro e w' ⟨rfl, h⟩
    have ho : orgT (swp (wlkN (min (max (cnt p) 1) (swp x).2.1.length) (swp x))).1 (swp (wlkN (min (max (cnt p) 1) (swp x).2.1.length) (swp x))).2.1 = t0 := by
     refine (orgT_swpN (swp x) _).trans ?_
     show orgT x.1 x.2.1.reverse.reverse = t0
     rw [List.reverse_reverse]
     exact inv.o
    obtain ⟨s, e1, e2, e3⟩ := wt _ _ w' ho h (if (swp x).2.1.length = 0 then 4 else 1) (by split <;> simp)
    exact ⟨s, by rw [e1], e2, e3, fun e => absurd e k27⟩
   ·have T := tkD HA X p f tv ns dg x inv.g inv.f hm hv hp inv.d (by have := inv.z; omega) w2 M2
    rw [← hk] at T
    refine Calls.mono T ?_
    rintro e w' ⟨O, rfl, hO, p2, f2, h1, h2, h3, h4, h5, h6⟩
    exact ⟨(O, p2, f2, x), rfl, ⟨by show O = 1 ∨ O = 2 ∨ O = 4; omega, h1, h2, h3, h5, inv.h.of h4.1, (fun e => by have : O = 2 := e; omega), fun e => absurd e k27, inv.o⟩, h6, fun e => absurd e k27⟩
 ·
  have hy : ns = [] ∨ InsP ns := by
   rcases inv.y with h | h | h
   ·have := h.1; omega
   ·exact h.2
   ·have := h.1; omega
  have KP : ∃ ns2 : List UInt8, ns2.length ≤ N + 1 ∧ ((ns2 = [] ∧ ns = []) ∨ (InsP ns ∧ ns2 = ns ++ [c])) ∧ ∀ {p2 : Pg} {f2 : Int → Value} {x2 : Hst} w2, Mem w0 Ow b r d m p2 f2 tv ns dg x2 w2 → Calls Tryz.prog 47 #[.pointer (some ⟨b, 1, none⟩), .int .u8 c.toNat, .int .i64 p.mode] w2 fun e w' => e = .returned (.tuple #[]) ∧ ∃ tv', Mem w0 Ow b r d m p2 f2 tv' ns2 dg x2 w' := by
   rcases hy with h | h
   ·refine ⟨[], Nat.zero_le _, Or.inl ⟨rfl, h⟩, ?_⟩
    intro p2 f2 x2 w2 M2
    rw [h] at M2
    exact kp0 c p.mode (Or.inl hm) w2 M2
   ·refine ⟨ns ++ [c], ln, Or.inr ⟨h, rfl⟩, ?_⟩
    intro p2 f2 x2 w2 M2
    rw [hm]
    have h0 : 0 < ns.length := by
     obtain ⟨us, k, js, q, e, _⟩ := h
     rw [e]; simp; omega
    exact kpI X c qo h0 w2 M2
  obtain ⟨ns2, l2, hs2, KP⟩ := KP
  by_cases k27 : (c.toNat : Int) = 27
  ·have hc : c = 27 := by
    apply UInt8.toNat_inj.1
    show c.toNat = 27
    omega
   refine Calls.mono (sEnd (fun _ q _ y => (c.toNat : Int) = 27 → y = x ∧ q.t = p.t ∧ q.now = p.now) X c inv hN ns2 l2 KP (fun w2 M2 => ?_) ww M) FIN
   rw [k27]
   refine Calls.mono (tkE X p f tv ns dg x inv.g hm w2 M2) ?_
   rintro e w' ⟨rfl, h⟩
   obtain ⟨z1, z2, z3, z4, z5⟩ := inv.b.ins hm
   have hnn : ({ p with pl := escPl p, mode := 0, anchor := 0 } : Pg).none' = { p with pl := escPl p, mode := 0, anchor := 0 } := by
    show ({ p with pl := escPl p, mode := 0, anchor := 0, reg := 0, n := 0, verb := 0, behind := 0, part := 0 } : Pg) = _
    rw [z1, z2, z3, z4, z5]
   refine ⟨(2, { p with pl := escPl p, mode := 0, anchor := 0 }, f, x), rfl, ⟨Or.inr (Or.inl rfl), escG inv.g, inv.f, hnn, by show ¬ (0 : Int) = 1; decide, inv.h.of rfl, (fun _ h0 => ?_), fun _ => rfl, inv.o⟩, h, fun _ => ⟨rfl, rfl, rfl⟩⟩
   rcases hs2 with ⟨e, _⟩ | ⟨h2, e⟩
   ·rw [e] at h0; simp at h0
   ·rw [e, hc]; exact do_insert h2
  ·obtain ⟨a1, a2, a3, a4⟩ := insP_all p c
   have hm2 : ((insP p c).none').mode = 1 := a4.trans hm
   refine sGoP c k27 1 (Or.inr ⟨by decide, hm2⟩) (inv.more (insP_good c inv.g hm).forget (GoodB.none _) inv.f a1 l2 (fun h => absurd hm2 h) (Or.inr (Or.inl ⟨hm2, ?_⟩))) KP (tkI X p f tv ns dg x c inv.g hm k27) ww M
   rcases hs2 with ⟨e, _⟩ | ⟨⟨us, k, js, q, b1, b2, b3, b4, b5, b6⟩, e⟩
   ·exact Or.inl e
   ·refine Or.inr ⟨us, k, js ++ [c], q, by rw [e, b1]; simp, b2, b3, b4, b5, ?_⟩
    intro j hj
    rcases List.mem_append.1 hj with h | h
    ·exact b6 j h
    ·simp at h; rw [h]; exact k27
 ·
  have hm1 : ¬ p.mode = 1 := by omega
  have hns : ns = [] := by
   rcases inv.y with h | h | h
   ·have := h.1; omega
   ·exact absurd h.1 hm1
   ·exact h.2
  subst hns
  have KP : ∀ {p2 : Pg} {f2 : Int → Value} {x2 : Hst} w2, Mem w0 Ow b r d m p2 f2 tv [] dg x2 w2 → Calls Tryz.prog 47 #[.pointer (some ⟨b, 1, none⟩), .int .u8 c.toNat, .int .i64 p.mode] w2 fun e w' => e = .returned (.tuple #[]) ∧ ∃ tv', Mem w0 Ow b r d m p2 f2 tv' [] dg x2 w' := by
   intro p2 f2 x2 w2 M2
   exact kp0 c p.mode (Or.inr hm) w2 M2
  by_cases k27 : (c.toNat : Int) = 27
  ·refine Calls.mono (sEnd (fun _ q _ y => (c.toNat : Int) = 27 → y = x ∧ q.t = p.t ∧ q.now = p.now) X c inv hN [] (Nat.zero_le _) KP (fun w2 M2 => ?_) ww M) FIN
   rw [k27]
   refine Calls.mono (tkX X p f tv [] dg x inv.g hm1 w2 M2) ?_
   exact qt76
  ·rcases tkM HA X p f tv [] dg x c.toNat inv.g inv.b inv.f hm k27 with ⟨p2, h1, h2, h3, h4, h5⟩ | ⟨h1, O, p2, f2, g1, g2, g3, g4, g5, g6, g7, g8⟩
   ·obtain ⟨a1, a2, a3, a4, a5, e⟩ := h4
    have e1 : p2.mode = p.mode := by rw [e]
    have e2 : p2.t = p.t := by rw [e]
    have e3 : p2.now = p.now := by rw [e]
    exact sGoP c k27 0 (Or.inl rfl) (inv.more h2 h3 inv.f e3 (Nat.zero_le _) (fun _ => by rw [e2, e3]; exact inv.t hm1) (Or.inr (Or.inr ⟨by rw [e1]; exact hm, rfl⟩))) KP h5.out ww M
   ·by_cases hp2 : p2.mode = 1
    ·exact sGoP c k27 O (Or.inr ⟨by omega, hp2⟩) (inv.more g2 (g4 ▸ GoodB.none p2) g3 g5.1 (Nat.zero_le _) (fun h => absurd hp2 h) (Or.inr (Or.inl ⟨hp2, Or.inl rfl⟩))) KP g8.out ww M
    ·refine Calls.mono (sEnd (fun _ q _ y => (c.toNat : Int) = 27 → y = x ∧ q.t = p.t ∧ q.now = p.now) X c inv hN [] (Nat.zero_le _) KP (fun w2 M2 => ?_) ww M) FIN
     refine Calls.mono (g8.out w2 M2) ?_
     rintro e w' ⟨rfl, h⟩
     exact ⟨(O, p2, f2, x), rfl, ⟨g1, g2, g3, g4, hp2, inv.h.of g5.1, (fun _ h0 => by simp at h0), fun e => absurd e k27, inv.o⟩, h, fun e => absurd e k27⟩
theorem sPress (HA : AnyOk) {t0 : ByteArray} {w0 : World} {Ow : List Nat} {b r d m : Nat} (X : Fix w0 Ow b r d m) {N : Nat} (c : UInt8) (hN : N ≤ 90000) : ∀ ww, StS t0 w0 Ow b r d m N ww →
  Calls Tryz.prog 38 #[.pointer (some ⟨b, 0, none⟩), .int .u8 c.toNat] ww fun e w' => ∃ O : Int, e = .returned (.int .i64 O) ∧ StS t0 w0 Ow b r d m (N + 1) w' ∧ ((c.toNat : Int) = 27 → StZ t0 w0 Ow b r d m (N + 1) w') := by
 rintro ww ⟨p, f, tv, ns, dg, x, inv, M⟩
 refine Calls.mono (sPressX HA X c hN p x ww ⟨f, tv, ns, dg, inv, M⟩) ?_
 rintro e w' ⟨O, p2, x2, rfl, ⟨f2, tv2, ns2, dg2, i2, M2⟩, h⟩
 exact ⟨O, rfl, ⟨p2, f2, tv2, ns2, dg2, x2, i2, M2⟩, fun k => ⟨p2, f2, tv2, ns2, dg2, x2, i2, M2, (h k).1, (h k).2.1⟩⟩
theorem end_begin {s : ByteArray} {q : Nat} (hq : q ≤ s.size) (hl : q ≤ lst s q) (he : q = s.size ∨ bt s q = 10) : q = 0 ∨ bt s (q - 1) = 10 := by
 have h1 := beg_le s q
 have h2 : fin s q = q := by
  refine up_stop ?_
  rintro ⟨a, b⟩
  rcases he with e | e
  ·omega
  ·simp [Nib.nl, e] at b
 have h3 : beg s q = q := by
  unfold lst at hl
  split at hl <;> omega
 by_cases h0 : q = 0
 ·exact Or.inl h0
 ·have h4 := beg_nl (s := s) (p := q) qo
  rw [h3] at h4
  exact Or.inr (by simpa [Nib.nl] using h4)
theorem qt60 {P : Prop} (h : P := by
  rcases hmo3 with h | h | h
  all_goals
   subst h
   (try (have z4 := hz4.resolve_left qd))
   clear hz4 hb
   go_enter func19, ntmps19
   go_wp2
   go_ret
   exact ⟨rfl, (Below.refl _ _).alloc (Nat.le_refl _) _⟩
 ) : P := h
theorem qt62 {P : Prop} (h : P := by
  rcases hmo3 with h | h | h
  all_goals
   subst h
   (try (have z4 := hz4.resolve_left qd))
   clear hz4
   go_enter func19, ntmps19
   go_wp2
   go_ret
   exact ⟨rfl, (Below.refl _ _).alloc (Nat.le_refl _) _⟩
 ) : P := h
theorem kSett (t : ByteArray) (q a : Nat) (mo : Int) (wt : Bool) (w : World) (hs : t.size ≤ 1000) (hq : q ≤ t.size) (hmo : mo = 0 ∨ mo = 1 ∨ mo = 2 ∨ mo = 3) (hw : mo = 1 → wt = false) (hl : ¬ mo = 1 → q ≤ lst t q) (ha : (mo = 2 ∨ mo = 3) → a ≤ t.size) :
  qC 19 #[.agg #[.string t, .int .i64 (q : Nat), .int .i64 (a : Nat), .int .i64 mo, .bool wt]] w (.bool true) := by
 have z0 : ¬ ((q : Nat) : Int) < 0 := by omega
 have z1 : ¬ ((t.size : Nat) : Int) < ((q : Nat) : Int) := by omega
 have z2 : ¬ (1000 : Int) < ((t.size : Nat) : Int) := by omega
 have z3 : ¬ ((a : Nat) : Int) < 0 := by omega
 by_cases hm : mo = 1
 ·have hwf := hw hm
  subst hm
  subst hwf
  clear hmo hw hl ha
  go_enter func19, ntmps19
  go_wp2
  go_ret
  refine ⟨rfl, ?_⟩
  exact (Below.refl _ _).alloc (Nat.le_refl _) _
 ·have hl' := hl hm
  have heb := end_begin hq hl'
  have hbt : ∀ (h : q < t.size), bt t q = (((t[q]'h).toNat : Nat) : Int) := fun h => bt_in h
  have hz4 : mo = 0 ∨ ¬ ((t.size : Nat) : Int) < ((a : Nat) : Int) := by
   rcases hmo with h | h | h | h
   ·exact Or.inl h
   ·exact absurd h hm
   ·have := ha (Or.inl h); exact Or.inr qo
   ·have := ha (Or.inr h); exact Or.inr qo
  have hmo3 : mo = 0 ∨ mo = 2 ∨ mo = 3 := by omega
  clear hmo hw hl ha hl' hm
  by_cases hA : q = t.size
  ·have e1 : (((q : Nat) : Int) == ((t.size : Nat) : Int)) = true := by simp [hA]
   have hb := heb (Or.inl hA)
   clear heb hbt
   rcases hb with hb | hb
   ·have q3 : (((q : Nat) : Int) == 0) = true := by simp [hb]
    clear hb hA
    exact qt62
   ·by_cases hq0 : q = 0
    ·have q3 : (((q : Nat) : Int) == 0) = true := by simp [hq0]
     clear hq0 hA
     exact qt60
    ·have q1 : q - 1 < t.size := by omega
     have q2 : ((q : Nat) : Int) - 1 = ((q - 1 : Nat) : Int) := by omega
     have q3 : (((q : Nat) : Int) == 0) = false := by simp; omega
     clear hA
     have q4 : ((((t[q - 1]'q1).toNat : Nat) : Int) == 10) = true := by rw [← bt_in q1, hb]; rfl
     exact qt60
  ·have e1 : (((q : Nat) : Int) == ((t.size : Nat) : Int)) = false := by simp; omega
   have e2 : q < t.size := by omega
   by_cases hB : bt t q = 10
   ·have e3 : ((((t[q]'e2).toNat : Nat) : Int) == 10) = true := by rw [← bt_in e2, hB]; rfl
    have hb := heb (Or.inr hB)
    clear heb hbt hB
    by_cases hq0 : q = 0
    ·have q3 : (((q : Nat) : Int) == 0) = true := by simp [hq0]
     clear hq0 hA
     exact qt60
    ·have hb' := hb.resolve_left hq0
     have q1 : q - 1 < t.size := by omega
     have q2 : ((q : Nat) : Int) - 1 = ((q - 1 : Nat) : Int) := by omega
     have q3 : (((q : Nat) : Int) == 0) = false := by simp; omega
     clear hA
     have q4 : ((((t[q - 1]'q1).toNat : Nat) : Int) == 10) = true := by rw [← bt_in q1, hb']; rfl
     rcases hmo3 with h | h | h
     all_goals
      subst h
      (try (have z4 := hz4.resolve_left qd))
      clear hz4 hb hb'
      go_enter func19, ntmps19
      go_wp2
      go_ret
      exact ⟨rfl, (Below.refl _ _).alloc (Nat.le_refl _) _⟩
   ·have e3 : ((((t[q]'e2).toNat : Nat) : Int) == 10) = false := by
     rw [← bt_in e2]
     simp [hB]
    clear heb hbt hB
    by_cases hq0 : q = 0
    ·have q3 : (((q : Nat) : Int) == 0) = true := by simp [hq0]
     clear hq0 hA
     exact qt62
    ·have q1 : q - 1 < t.size := by omega
     have q2 : ((q : Nat) : Int) - 1 = ((q - 1 : Nat) : Int) := by omega
     have q3 : (((q : Nat) : Int) == 0) = false := by simp; omega
     clear hA
     have q5 : ∃ B : Bool, ((((t[q - 1]'q1).toNat : Nat) : Int) == 10) = B := ⟨_, rfl⟩
     obtain ⟨B, q4⟩ := q5
     exact qt62
theorem StS.firm {t0 : ByteArray} {w0 : World} {Ow : List Nat} {b r d m N : Nat} : Firm (StS t0 w0 Ow b r d m N) := by
 rintro w w' ⟨p, f, tv, ns, dg, x, h1, h2⟩ hb
 exact ⟨p, f, tv, ns, dg, x, h1, Mem.firm _ _ h2 hb⟩
theorem StS.up {t0 : ByteArray} {w0 ww : World} {Ow : List Nat} {b r d m N : Nat} (h : StS t0 w0 Ow b r d m N ww) : Upd (b :: r :: d :: m :: Ow) w0 ww := by
 obtain ⟨_, _, _, _, _, _, _, h2⟩ := h
 exact h2.up
theorem New7.sts {w W : World} {q b r d m : Nat} {t : ByteArray} (N : New7 w W q b r d m t) (ht : t.size ≤ 1000) : Fix W [] b r d m ∧ StS t W [] b r d m 0 W := by
 refine ⟨⟨N.ly, N.rd.ne, N.bd.lt, N.rd.bg.lt, N.rd.dk.lt, N.rg.lt, fun k hk => by simp at hk⟩, newPg t m, f0, .slice none 0 0, [], ⟨#[]⟩, (t, [], []), ?_, ?_⟩
 ·exact ⟨⟨ht, Nat.zero_le _, fun _ => zero_settled _, fun _ => Nat.zero_le _, Or.inl rfl, Nat.zero_le _, Nat.zero_le _, Or.inl rfl, rfl⟩, ⟨Or.inl rfl, Or.inl rfl, fun h => absurd h (by show ¬ (0 : Int) = 1; decide)⟩, fun c => ⟨⟨#[]⟩, false, rfl, by decide⟩, ⟨rfl, ht, trivial, trivial, Nat.le_refl _⟩, Nat.le_refl _, fun _ => rfl, Or.inl ⟨rfl, rfl⟩, Or.inl rfl, Nat.le_refl _, rfl, fun h => absurd h (by show ¬ (0 : Int) = 1; decide)⟩
 ·exact ⟨N.bd, N.rd, N.rg, World.ownsRow_nil _ _ _ _, World.ownsRow_nil _ _ _ _, World.ownsRow_nil _ _ _ _, (fun k hk => by simp [Value.ownBlock] at hk), (fun k hk => by simp [newPg, Value.ownBlock] at hk), (fun k hk => by simp [newPg, Value.ownBlock] at hk), (fun k hk => by simp [Value.ownBlock] at hk), (fun k hk => by simp [Value.ownBlock] at hk), (fun k hk => by simp [newPg, Value.ownBlock] at hk), Upd.refl _ _⟩
theorem nTypeY (q b : Nat) (s : ByteArray) (w : World) (Q : Nat → World → Prop) (hq : w.cell? ⟨q, 0, none⟩ = some (.pointer (some ⟨b, 0, none⟩)))
  (HT : Hid (∀ ww, ww = w → Calls Tryz.prog 30 #[.pointer (some ⟨b, 0, none⟩), .string s] ww fun e w' => ∃ n : Nat, e = .returned (.int .i64 n) ∧ Q n w')) :
  Calls Tryz.prog 17 #[.pointer (some ⟨q, 0, none⟩), .string s] w fun e w' => ∃ n : Nat, e = .returned (.int .i64 n) ∧ Q n w' := by
 go_enter func17, ntmps17
 go_wp2_with fail
 refine Calls.mono (HT.out _ rfl) ?_
 rintro e w1 ⟨n, rfl, h1⟩
 have HQ : Hid (Q n w1) := h1
 clear h1
 go_wp2
 go_ret
 exact ⟨n, rfl, HQ.out⟩
theorem sType (HA : AnyOk) {t0 : ByteArray} {w0 : World} {Ow : List Nat} {b r d m : Nat} (X : Fix w0 Ow b r d m) (q N : Nat) (c : UInt8) (hN : N ≤ 80000) (ww : World) (hq : ww.cell? ⟨q, 0, none⟩ = some (.pointer (some ⟨b, 0, none⟩))) (h : StS t0 w0 Ow b r d m N ww) :
  Calls Tryz.prog 17 #[.pointer (some ⟨q, 0, none⟩), .string ⟨#[c]⟩] ww fun e w' => ∃ n : Nat, e = .returned (.int .i64 n) ∧ (n ≤ 1 ∧ StS t0 w0 Ow b r d m (N + 1) w') := by
 refine nTypeY q b ⟨#[c]⟩ ww (fun n w' => n ≤ 1 ∧ StS t0 w0 Ow b r d m (N + 1) w') hq ?_
 rintro v rfl
 refine Calls.mono (bType_inv b ⟨#[c]⟩ (fun k ww' => StS t0 w0 Ow b r d m (N + k) ww') v h (show 1 ≤ 17592186044416 by decide) ?_) ?_
 ·intro k hk w1 hI
  have hk0 : k = 0 := by
   have : (⟨#[c]⟩ : ByteArray).size = 1 := rfl
   omega
  subst hk0
  refine Calls.mono (sPress HA X c qo w1 hI) ?_
  rintro e w' ⟨O, rfl, h1, _⟩
  exact ⟨O, rfl, h1⟩
 ·rintro e w' ⟨n, rfl, hn, h2⟩
  exact ⟨n, rfl, hn, h2⟩
theorem sTypeE (HA : AnyOk) {t0 : ByteArray} {w0 : World} {Ow : List Nat} {b r d m : Nat} (X : Fix w0 Ow b r d m) (q N : Nat) (hN : N ≤ 80000) (s : ByteArray) (hs : s.size = 2) (hc : ∀ k (hk : k < s.size), ((s[k]'hk).toNat : Int) = 27) (ww : World) (hq : ww.cell? ⟨q, 0, none⟩ = some (.pointer (some ⟨b, 0, none⟩))) (h : StS t0 w0 Ow b r d m N ww) :
  Calls Tryz.prog 17 #[.pointer (some ⟨q, 0, none⟩), .string s] ww fun e w' => ∃ n : Nat, e = .returned (.int .i64 n) ∧ StZ t0 w0 Ow b r d m (N + s.size) w' := by
 refine nTypeY q b s ww (fun _ w' => StZ t0 w0 Ow b r d m (N + s.size) w') hq ?_
 rintro v rfl
 refine Calls.mono (bType_inv b s (fun k ww' => StS t0 w0 Ow b r d m (N + k) ww' ∧ (0 < k → StZ t0 w0 Ow b r d m (N + k) ww')) v ⟨h, fun h => absurd h (Nat.lt_irrefl 0)⟩ qo ?_) ?_
 ·intro k hk w1 hI
  refine Calls.mono (sPress HA X (s[k]'hk) qo w1 hI.1) ?_
  rintro e w' ⟨O, rfl, h1, h2⟩
  exact ⟨O, rfl, h1, fun _ => h2 (hc k hk)⟩
 ·rintro e w' ⟨n, rfl, hn, h2⟩
  exact ⟨n, rfl, h2.2 qo⟩
theorem two_esc : ∀ k (hk : k < (⟨#[27, 27]⟩ : ByteArray).size), (((⟨#[27, 27]⟩ : ByteArray)[k]'hk).toNat : Int) = 27 := by
 intro k hk
 have hk2 : k < 2 := hk
 match k, hk2 with
 | 0, _ => rfl
 | 1, _ => rfl
theorem kSettled (HA : AnyOk) (text keys : ByteArray) (w : World) :
  qC 5 #[.string text, .string keys] w (.bool true) := by
 have HK : qH 14 #[] (.bool true) := fun ww => kKnown ww
 have HO : Hid (∀ ww, Calls Tryz.prog 15 #[.string text] ww fun e w' => ∃ q b r d m : Nat, e = .returned (.pointer (some ⟨q, 0, none⟩)) ∧ New7 ww w' q b r d m (cut3 text) ∧ Below ww.heap.size ww w') := fun ww => kOpened text ww
 have HU2 : qH 16 #[.string keys, .int .i64 300] (.string (cut3 keys)) := fun ww => kUpTo keys ww
 have ht := cut3_size text
 have hk := cut3_size keys
 generalize cut3 text = t at *
 generalize cut3 keys = ks at *
 go_enter func5, ntmps5
 go_wp2_with fail
 refine Calls.mono (HK.out _) ?_
 rintro e w1 ⟨rfl, g1⟩
 have z1 := g1.size
 go_wp2_with fail
 refine Calls.mono (HO.out _) ?_
 rintro e w2 ⟨q, b, r, d, m, rfl, N2, g2⟩
 have z2 := g2.size
 go_wp2_with fail
 refine Calls.mono (HU2.out _) ?_
 rintro e w3 ⟨rfl, g3⟩
 have z3 := g3.size
 have N3 := N2.below g3
 have B3 : Below w.heap.size w w3 := by
  repeat exact qB
 obtain ⟨X, S3⟩ := N3.sts qo
 clear HK HO HU2 g1 g2 g3 N2
 go_wp2
 go_loopw [7] (fun a wr => ∃ k : Nat, k ≤ ks.size ∧ a = .int .i64 k ∧ StS t w3 [] b r d m k wr) (fun a _ => ks.size - (intOf a).toNat)
 case atStart => exact ⟨0, Nat.zero_le _, rfl, S3⟩
 case round =>
  clear S3
  obtain ⟨k, hkk, rfl, S⟩ := hrel
  have cq := S.up.was N3.cq (by simp [N3.qb, N3.qr, N3.qd, N3.qm])
  have zr := S.up.size
  by_cases hlt : k < ks.size
  ·have i1 : ((k : Nat) : Int) < ((ks.size : Nat) : Int) := by omega
   have i2 : ((k : Nat) : Int) + 1 ≤ ((ks.size : Nat) : Int) := by omega
   have e1 := one_byte ks k hlt
   go_wp2_with fail
   refine Calls.mono (sType HA X q k (ks[k]'hlt) qo _ cq S) ?_
   rintro e w4 ⟨n, rfl, hn, S4⟩
   have c4 := S4.up.was N3.cq (by simp [N3.qb, N3.qr, N3.qd, N3.qm])
   obtain ⟨p, f, tv, ns, dg, x, inv, M⟩ := S4
   have HN : Hid (∀ ww, ww = w4 → qC 18 #[.pointer (some ⟨q, 0, none⟩)] ww (.agg #[.string p.t, .int .i64 (p.pl : Nat), .int .i64 (p.anchor : Nat), .int .i64 p.mode, .bool (waits p)])) := by
    rintro ww rfl
    exact nState q b r d tv dg p ww c4 M.bd M.rd
   have hwt : p.mode = 1 → waits p = false := by
    intro hm
    obtain ⟨y1, y2, y3, y4, y5⟩ := inv.b.ins hm
    unfold waits
    rw [y1, y2, y3, y4, y5]
    rfl
   have HS : qH 19 #[.agg #[.string p.t, .int .i64 (p.pl : Nat), .int .i64 (p.anchor : Nat), .int .i64 p.mode, .bool (waits p)]] (.bool true) := fun ww => kSett p.t p.pl p.anchor p.mode (waits p) ww inv.g.ts inv.g.pl inv.g.mo hwt inv.g.st inv.g.an
   have HF : Hid (∀ w', Below w4.heap.size w4 w' → StS t w3 [] b r d m (k + 1) w') := fun w' hb => StS.firm _ _ ⟨p, f, tv, ns, dg, x, inv, M⟩ hb
   have n0 : ¬ ((n : Nat) : Int) < 0 := by omega
   have n1 : ¬ (1 : Int) < ((n : Nat) : Int) := by omega
   clear hwt inv M S cq
   generalize p.t = T at *
   generalize p.pl = PL at *
   generalize p.anchor = PA at *
   generalize p.mode = PM at *
   generalize waits p = PW at *
   go_wp2_with fail
   refine Calls.mono (HN.out _ rfl) ?_
   rintro e w5 ⟨rfl, g5⟩
   have z5 := g5.size
   go_wp2_with fail
   refine Calls.mono (HS.out _) ?_
   rintro e w6 ⟨rfl, g6⟩
   have B6 : Below w4.heap.size w5 w6 := by
    repeat exact qB
   have S6 := HF.out w6 (Below.trans g5 B6)
   have HS6 : Hid (StS t w3 [] b r d m (k + 1) w6) := S6
   clear HN HS HF g5 g6 S6 B6 c4
   go_wp2
   go_round
   case rel => exact ⟨k + 1, by omega, by go_num, HS6.out⟩
   case measure => simp [intOf] <;> omega
  ·have hns : ¬ ((k : Nat) : Int) < ((ks.size : Nat) : Int) := by omega
   go_wp2_with fail
   refine Calls.mono (sTypeE HA X q k qo ⟨#[27, 27]⟩ rfl two_esc _ cq S) ?_
   rintro e w4 ⟨n, rfl, p, f, tv, ns, dg, x, inv, M, hm, hn⟩
   have c4 := M.up.was N3.cq (by simp [N3.qb, N3.qr, N3.qd, N3.qm])
   have z4 := M.up.size
   have B4 : Below w.heap.size w w4 := B3.trans (below_of_upd M.up qo (by
    intro x hx
    simp at hx
    have := N3.lb; have := N3.lr; have := N3.ld; have := N3.lm
    rcases hx with hx | hx | hx | hx <;> omega))
   have hw : waits p = false := by rw [← hn]; rfl
   have HN : Hid (∀ ww, ww = w4 → qC 18 #[.pointer (some ⟨q, 0, none⟩)] ww (.agg #[.string p.t, .int .i64 (p.pl : Nat), .int .i64 (p.anchor : Nat), .int .i64 0, .bool false])) := by
    rintro ww rfl
    have := nState q b r d tv dg p ww c4 M.bd M.rd
    rw [hm, hw] at this
    exact this
   clear inv M S cq hm hn hw
   generalize p.t = T at *
   generalize p.pl = PL at *
   generalize p.anchor = PA at *
   go_wp2_with fail
   refine Calls.mono (HN.out _ rfl) ?_
   rintro e w5 ⟨rfl, g5⟩
   have z5 := g5.size
   go_wp2
   go_ret
   refine ⟨rfl, ?_⟩
   repeat exact qB
