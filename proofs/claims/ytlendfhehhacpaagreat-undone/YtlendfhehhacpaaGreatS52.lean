/- A part. -/
import Derived.Test.YtlendfhehhacpaaGreatS51
set_option linter.unusedVariables false
set_option linter.unusedSimpArgs false
set_option maxRecDepth 100000
set_option maxHeartbeats 8000000
namespace Go.Proofs.YtlendfhehhacpaaGreat
open Go.RowKit Nib Tryz
def DoOk (dg : ByteArray) : Prop := dg = ⟨#[]⟩ ∨ ∃ ks : List UInt8, dg = ⟨ks.toArray⟩ ∧ 0 < ks.length ∧ ∀ p : Pg, p.mode = 0 → p.none' = p → Ph p ks
def Over (w0 : World) (Ow : List Nat) (b r d m : Nat) (p : Pg) (tv : Value) (ns : List UInt8) (dg : ByteArray) (h : Hst) (ww : World) : Prop :=
 ∃ p2 f2, GoodC m p2 ∧ GoodF f2 ∧ p2.none' = p2 ∧ (p2.now = p.now ∧ p2.back = p.back ∧ p2.forth = p.forth) ∧ ¬ p2.mode = 1 ∧ Mem w0 Ow b r d m p2 f2 tv ns dg h ww
theorem rpt (HA : AnyOk) {w0 : World} {Ow : List Nat} {b r d m : Nat} (X : Fix w0 Ow b r d m) (p : Pg) (f : Int → Value) (tv : Value) (ns : List UInt8) (dg : ByteArray) (h : Hst) (hg : GoodC m p) (hf : GoodF f) (hm : p.mode = 0) (hn : p.none' = p) (hd : DoOk dg) (hz : dg.size ≤ 17592186044416) :
  ∀ ww, Mem w0 Ow b r d m p f tv ns dg h ww → Calls Tryz.prog 66 #[.pointer (some ⟨b, 0, none⟩)] ww fun e w' => ∃ O : Int, e = .returned (.int .i64 O) ∧ (O = 1 ∨ O = 4) ∧ Over w0 Ow b r d m p tv ns dg h w' := by
 intro ww M
 rcases hd with hd | ⟨ks, hd, hl, hp⟩
 ·subst hd
  refine Calls.mono (bRepeat_none b r d tv ww M.bd) ?_
  rintro e w' ⟨rfl, hb⟩
  exact ⟨4, rfl, Or.inr rfl, p, f, hg, hf, hn, ⟨rfl, rfl, rfl⟩, by rw [hm]; decide, Mem.firm _ _ M hb⟩
 ·have hsz : dg.size = ks.length := by subst hd; rfl
  refine Calls.mono (bRepeat b r d dg (fun k ww => ∃ p2 f2, GoodC m p2 ∧ GoodB p2 ∧ GoodF f2 ∧ (p2.now = p.now ∧ p2.back = p.back ∧ p2.forth = p.forth) ∧ Ph p2 (ks.drop k) ∧ Mem w0 Ow b r d m p2 f2 tv ns dg h ww) (Over w0 Ow b r d m p tv ns dg h) ww ⟨p, f, hg, hn ▸ GoodB.none p, hf, ⟨rfl, rfl, rfl⟩, hp p hm hn, M⟩ hz qo ?_ ?_) ?_
  ·rintro k w2 ⟨p2, f2, _, _, _, _, _, M2⟩
   exact ⟨tv, M2.bd⟩
  ·rintro k hk w2 ⟨p2, f2, g1, g2, g3, g4, g5, M2⟩
   have hk2 : k < ks.length := by omega
   rw [List.drop_eq_getElem_cons hk2] at g5
   have hc : dg[k]'hk = ks[k]'hk2 := by subst hd; rfl
   rw [hc]
   obtain ⟨O, p3, f3, q1, q2, q3, q4, q5, q6, q7⟩ := Ph.step HA X p2 f2 tv ns dg h (ks[k]'hk2) (ks.drop (k + 1)) g1 g2 g3 g5
   refine Calls.mono (q7 w2 M2) ?_
   rintro e w' ⟨rfl, M3⟩
   have q4' : p3.now = p.now ∧ p3.back = p.back ∧ p3.forth = p.forth := ⟨q4.1.trans g4.1, q4.2.1.trans g4.2.1, q4.2.2.trans g4.2.2⟩
   exact ⟨O, rfl, fun e => ⟨p3, f3, q1, q3, (q5 e).1, q4', (q5 e).2, M3⟩, fun e => ⟨p3, f3, q1, q2, q3, q4', q6 e, M3⟩⟩
  ·rintro e w' (⟨rfl, hF⟩ | ⟨rfl, p2, f2, g1, g2, g3, g4, g5, M2⟩)
   ·exact ⟨4, rfl, Or.inr rfl, hF⟩
   ·rw [hsz, List.drop_length] at g5
    rcases g5 with ⟨_, us, c, is, q, e1, _⟩ | ⟨_, js, e1, _⟩ | ⟨e1, e2, _⟩
    ·exfalso; simp at e1
    ·exfalso; simp at e1
    ·exact ⟨1, rfl, Or.inl rfl, p2, f2, g1, g3, e2, g4, e1, M2⟩
theorem tkD (HA : AnyOk) {w0 : World} {Ow : List Nat} {b r d m : Nat} (X : Fix w0 Ow b r d m) (p : Pg) (f : Int → Value) (tv : Value) (ns : List UInt8) (dg : ByteArray) (h : Hst) (hg : GoodC m p) (hf : GoodF f) (hm : p.mode = 0) (hv : p.verb = 0) (hp : p.part = 0) (hd : DoOk dg) (hz : dg.size ≤ 17592186044416) :
  ∀ ww, Mem w0 Ow b r d m p f tv ns dg h ww → Calls Tryz.prog 46 #[.pointer (some ⟨b, 0, none⟩), .int .u8 46] ww fun e w' => ∃ O : Int, e = .returned (.int .i64 O) ∧ (O = 1 ∨ O = 4) ∧ Over w0 Ow b r d m p tv ns dg h w' := by
 intro ww M
 refine bTake_again b r d tv dg p 46 (Mem w0 Ow b r d m p f tv ns dg h) (Mem w0 Ow b r d m p.none' f tv ns dg h) (fun O w' => (O = 1 ∨ O = 4) ∧ Over w0 Ow b r d m p tv ns dg h w') ww M.bd M Mem.firm Mem.firm (fun _ h => h.rd) hm qd ?_ ?_ ?_
 ·intro w2 M2
  have hd0 : isD p.n 46 = false := by unfold isD; simp
  refine Calls.mono (mTake_cmdB r d p 46 3 (Mem w0 Ow b r d m p f tv ns dg h) (Mem w0 Ow b r d m p f tv ns dg h) [] w2 M2 Mem.firm Mem.firm (fun _ h => h.rd) hp hv hd0 (fun w3 M3 => Calls.mono (mCommand_dot r w3) ?_)) ?_
  ·rintro e w' ⟨rfl, hb⟩
   exact ⟨rfl, Mem.firm _ _ M3 hb, Upd.of_below hb⟩
  ·rintro e w' ⟨rfl, _, hu⟩
   exact ⟨rfl, below_of_upd hu (Nat.le_refl _) qi⟩
 ·intro w2 M2
  refine Calls.mono (mForget r d p w2 M2.rd) ?_
  rintro e w' ⟨rfl, a, u⟩
  exact ⟨rfl, M2.step X ⟨a, M2.rg.upd u (by simp [X.ly.mr])⟩ u (by intro k hk; simp at hk; omega) rfl rfl⟩
 ·intro w2 M2
  refine Calls.mono (rpt HA X p.none' f tv ns dg h hg.forget hf hm rfl hd hz w2 M2) ?_
  rintro e w' ⟨O, rfl, hO, hv⟩
  exact ⟨O, rfl, hO, hv⟩
def swp (x : Hst) : Hst := (x.1, x.2.2.reverse, x.2.1.reverse)
theorem swp_swp (x : Hst) : swp (swp x) = x := by unfold swp; simp
theorem tkRe {w0 : World} {Ow : List Nat} {b r d m : Nat} (X : Fix w0 Ow b r d m) (p : Pg) (f : Int → Value) (tv : Value) (ns : List UInt8) (dg : ByteArray) (z : Hst) (N : Nat) (hg : GoodC m p) (hm : p.mode = 0) (hv : p.verb = 0) (hp : p.part = 0) (ht : p.t = p.now) (ho : HOk p (swp z) N) (hN : N ≤ 100000) :
  ∀ ww, Mem w0 Ow b r d m p f tv ns dg (swp z) ww → Calls Tryz.prog 46 #[.pointer (some ⟨b, 0, none⟩), .int .u8 18] ww fun e w' => e = .returned (.int .i64 (if z.2.1.length = 0 then 4 else 1)) ∧ WentN w0 Ow b r d m f tv ns dg (uQ p (wlkN (min (max (cnt p) 1) z.2.1.length) z).1).none' (swp (wlkN (min (max (cnt p) 1) z.2.1.length) z)) N w' := by
 intro ww M
 have hd0 : isD p.n 18 = false := by unfold isD; simp
 have lb := X.lb; have lr := X.lr; have ld := X.ld; have lm := X.lm
 have ho1 : OkS z.1 z.2.1 := by have := ho.f; simpa [swp] using this
 have ho2 : OkS z.1 z.2.2.reverse := ho.b
 have ho3 : z.2.1.length + z.2.2.length ≤ N := by have := ho.n; simp [swp] at this; omega
 have hoz : z.1.size ≤ 1000 := ho.z
 have hon : p.now = z.1 := ho.now
 have FO : ∀ {w2 : World}, Mem w0 Ow b r d m p f tv ns dg (swp z) w2 → w2.ownsRow 0 130 3 p.forth z.2.1.length (celS z.2.1.reverse) := fun M => by have := M.fo; simpa [swp] using this
 have BK : ∀ {w2 : World}, Mem w0 Ow b r d m p f tv ns dg (swp z) w2 → w2.ownsRow 0 130 3 p.back z.2.2.length (celS z.2.2) := fun M => by have := M.bk; simpa [swp] using this
 by_cases h0 : z.2.1.length = 0
 ·have hb : ∃ a cap, p.forth = .slice a 0 cap := by
   have := FO M
   rw [h0] at this
   rcases this.2 with ⟨e, _⟩ | ⟨g, cap, cur, e, _⟩
   ·exact ⟨_, _, e⟩
   ·exact ⟨_, _, e⟩
  obtain ⟨a, cap, hb⟩ := hb
  refine Calls.mono (tkH X p f tv ns dg p (swp z) (swp z) N 18 4 [] hm hv hp qd hd0 (Or.inr rfl) qi (fun w2 M2 => Calls.mono (mCommand_redo_no r d p a cap w2 M2.rd hb hg.n hg.bh) ?_) ww M) ?_
  ·rintro e w' ⟨rfl, hbl⟩
   exact ⟨rfl, ⟨p, ⟨p.back, p.forth, rfl⟩, hg, hm, ht, ho, Mem.firm _ _ M2 hbl⟩, Upd.of_below hbl⟩
  ·rintro e w' ⟨rfl, h⟩
   refine ⟨by rw [if_pos h0], ?_⟩
   rw [h0, Nat.min_zero]
   show WentN w0 Ow b r d m f tv ns dg (uQ p z.1).none' (swp z) N w'
   rw [uQ_same (ht.trans hon) hon]
   exact h
 ·obtain ⟨g, cap, hb, _⟩ := owned_some (FO M) qo
  have hbo : p.forth.ownBlock = some g := by rw [hb]; rfl
  have hpp : ({ p with now := z.1, back := p.back, forth := .slice (some ⟨g, 0, none⟩) z.2.1.length cap } : Pg) = p := by rw [← hon, ← hb]
  refine Calls.mono (tkH X p f tv ns dg (uQ p (wlkN (min (max (cnt p) 1) z.2.1.length) z).1) (swp z) (swp (wlkN (min (max (cnt p) 1) z.2.1.length) z)) N 18 1 (d :: own p.back) hm hv hp qd hd0 (Or.inl rfl) ?_ (fun w2 M2 => ?_) ww M) ?_
  ·intro hk
   rcases List.mem_cons.1 hk with e | e
   ·exact X.ly.bd e
   ·have := (M.bl b (mem_own.1 e)).1; omega
  ·have hgl := (M2.fo.lt g hbo).2
   have hw0 := M2.up.size
   have hg0 := M2.fl g hbo
   have hg1 := hg0.1
   have HS : HfAt w2 w2 r d g cap p z p.back := ⟨by rw [hpp]; exact M2.rd, by rw [← hb]; exact FO M2, BK M2, by omega, by omega, fun e => by have := (M2.bl d e).1; omega, fun e => by have := (M2.bl r e).1; omega, fun e => M2.bf g e hbo, hgl, Or.inl rfl, Upd.refl _ _⟩
   refine Calls.mono (mCommand_redo r d g cap p z w2 HS qo hoz ho1 qo hg.ts hg.n hg.bh) ?_
   have hle : min (max (cnt p) 1) z.2.1.length ≤ z.2.1.length := by omega
   have y1 := wlkN_ok z hoz ho1 _ hle
   have y2 := wlkN_forth z hoz ho1 ho2 _ hle
   have y3 := wlkN_len z _ hle
   generalize wlkN (min (max (cnt p) 1) z.2.1.length) z = y at *
   rintro e w' ⟨rfl, ov, S⟩
   obtain ⟨t1, t2, t3, t4⟩ := goT_t p y.1
   have hup : Upd (d :: own p.back) w2 w' := by have := S.up; rw [t4] at this; exact this
   have hfr : p.back.ownBlock = ov.ownBlock ∨ ∀ k, ov.ownBlock = some k → w2.heap.size ≤ k := by have := S.fr; rw [t4] at this; exact this
   refine ⟨rfl, ⟨{ goT p y.1 with now := y.1, back := ov, forth := .slice (some ⟨g, 0, none⟩) y.2.1.length cap }, ⟨_, _, rfl⟩, goT_good hg hm y.1 y1.1 _ _, t2.trans hm, t1, ⟨rfl, y1.1, y2, by have := y1.2; simpa [swp] using this, by simp [swp]; omega⟩, ?_⟩, hup⟩
   have nb : ∀ k, (k = b ∨ k = r ∨ k = d ∨ k = m) → ¬ k = d → k ∉ d :: own p.back := by
    intro k hz hzd hk
    rcases List.mem_cons.1 hk with e | e
    ·exact hzd e
    ·have := (M2.bl k (mem_own.1 e)).1; omega
   refine ⟨M2.bd.upd hup (nb b qi X.ly.bd), S.rd, M2.rg.upd hup (nb m qi X.ly.md), ownsRow_upd M2.ty hup ?_, by have := S.of; simpa [swp] using this, by have := S.ob; simpa [swp] using this, M2.tl, ?_, ?_, ?_, ?_, ?_, updMore M2.up hup ?_⟩
   ·intro k hk e
    rcases List.mem_cons.1 hk with e2 | e2
    ·have := (M2.tl k e).1; omega
    ·exact M2.tb k e (mem_own.1 e2)
   ·intro k hk
    have hk' : ov.ownBlock = some k := hk
    rcases hfr with e | e
    ·exact M2.bl k (by rw [e]; exact hk')
    ·exact X.fresh (by have := e k hk'; omega)
   ·intro k hk
    have : g = k := by simpa [Value.ownBlock] using hk
    subst this
    exact hg0
   ·intro k hk e
    have hk' : ov.ownBlock = some k := e
    rcases hfr with e2 | e2
    ·exact M2.tb k hk (by rw [e2]; exact hk')
    ·have := e2 k hk'; have := (M2.ty.lt k hk).2; omega
   ·intro k hk e
    have : g = k := by simpa [Value.ownBlock] using e
    subst this
    exact M2.tf g hk hbo
   ·intro k hk e
    have hk' : ov.ownBlock = some k := hk
    have : g = k := by simpa [Value.ownBlock] using e
    subst this
    exact S.og hk'
   ·intro k hz
    rcases List.mem_cons.1 hz with e | e
    ·left; simp [e]
    ·exact (M2.bl k (mem_own.1 e)).in
  ·rintro e w' ⟨rfl, h⟩
   exact ⟨by rw [if_neg h0], h⟩
theorem Mem.keep {w0 : World} {Ow : List Nat} {b r d m : Nat} {p : Pg} {f : Int → Value} {tv tv' : Value} {ns : List UInt8} {dg : ByteArray} {x : Hst} {ww w' : World} {c : UInt8} (M : Mem w0 Ow b r d m p f tv ns dg x ww) (X : Fix w0 Ow b r d m) (hb : BdAt w' b r d tv' dg)
  (ho : w'.ownsRow 0 5 1 tv' (ns.length + 1) (ns.map (fun c => .int .u8 (c.toNat : Int)) ++ [.int .u8 (c.toNat : Int)])) (hf : tv'.ownBlock = tv.ownBlock ∨ ∃ g, tv'.ownBlock = some g ∧ ww.heap.size ≤ g) (hu : Upd (b :: own tv) ww w') : Mem w0 Ow b r d m p f tv' (ns ++ [c]) dg x w' := by
 have lb := X.lb; have lr := X.lr; have ld := X.ld; have lm := X.lm
 have hw0 := M.up.size
 have nb : ∀ k, (k = b ∨ k = r ∨ k = d ∨ k = m) → ¬ k = b → k ∉ b :: own tv := by
  intro k hz hzd hk
  rcases List.mem_cons.1 hk with e | e
  ·exact hzd e
  ·have := (M.tl k (mem_own.1 e)).1; omega
 refine ⟨hb, M.rd.upd hu (nb r qi X.ly.br.symm) (nb d qi X.ly.bd.symm), M.rg.upd hu (nb m qi X.ly.mb), by simpa using ho, ownsRow_upd M.bk hu ?_, ownsRow_upd M.fo hu ?_, ?_, M.bl, M.fl, ?_, ?_, M.bf, updMore M.up hu ?_⟩
 ·intro k hk e
  rcases List.mem_cons.1 hk with e2 | e2
  ·have := (M.bl k e).1; omega
  ·exact M.tb k (mem_own.1 e2) e
 ·intro k hk e
  rcases List.mem_cons.1 hk with e2 | e2
  ·have := (M.fl k e).1; omega
  ·exact M.tf k (mem_own.1 e2) e
 ·intro k hk
  rcases hf with e | ⟨g, e1, e2⟩
  ·exact M.tl k (by rw [← e]; exact hk)
  ·rw [e1] at hk; injection hk with hk; exact X.fresh qo
 ·intro k hk e
  rcases hf with e2 | ⟨g, e1, e2⟩
  ·exact M.tb k (by rw [← e2]; exact hk) e
  ·rw [e1] at hk; injection hk with hk; have := (M.bk.lt k e).2; omega
 ·intro k hk e
  rcases hf with e2 | ⟨g, e1, e2⟩
  ·exact M.tf k (by rw [← e2]; exact hk) e
  ·rw [e1] at hk; injection hk with hk; have := (M.fo.lt k e).2; omega
 ·intro k hk
  rcases List.mem_cons.1 hk with e | e
  ·left; simp [e]
  ·exact (M.tl k (mem_own.1 e)).in
theorem kpN {w0 : World} {Ow : List Nat} {b r d m : Nat} (X : Fix w0 Ow b r d m) {p : Pg} {f : Int → Value} {tv : Value} {ns : List UInt8} {dg : ByteArray} {x : Hst} (c : UInt8) (hn : ns.length ≤ 17592186044416) :
  ∀ ww, Mem w0 Ow b r d m p f tv ns dg x ww → Calls Tryz.prog 47 #[.pointer (some ⟨b, 1, none⟩), .int .u8 c.toNat, .int .i64 0] ww fun e w' => e = .returned (.tuple #[]) ∧ ∃ tv', Mem w0 Ow b r d m p f tv' (ns ++ [c]) dg x w' := by
 intro ww M
 refine Calls.mono (mKeep_normal b r d tv dg c.toNat ns.length _ ww M.bd (fun e => by have := (M.tl b e).1; omega) M.ty hn) ?_
 rintro e w' ⟨rfl, tv', h1, h2, h3, h4⟩
 exact ⟨rfl, tv', M.keep X h1 h2 h3 h4⟩
theorem kpI {w0 : World} {Ow : List Nat} {b r d m : Nat} (X : Fix w0 Ow b r d m) {p : Pg} {f : Int → Value} {tv : Value} {ns : List UInt8} {dg : ByteArray} {x : Hst} (c : UInt8) (hn : ns.length ≤ 17592186044416) (h0 : 0 < ns.length) :
  ∀ ww, Mem w0 Ow b r d m p f tv ns dg x ww → Calls Tryz.prog 47 #[.pointer (some ⟨b, 1, none⟩), .int .u8 c.toNat, .int .i64 1] ww fun e w' => e = .returned (.tuple #[]) ∧ ∃ tv', Mem w0 Ow b r d m p f tv' (ns ++ [c]) dg x w' := by
 intro ww M
 refine Calls.mono (mKeep_ins b r d tv dg c.toNat ns.length _ ww M.bd (fun e => by have := (M.tl b e).1; omega) M.ty hn h0) ?_
 rintro e w' ⟨rfl, tv', h1, h2, h3, h4⟩
 exact ⟨rfl, tv', M.keep X h1 h2 h3 h4⟩
theorem Mem.nil {w0 : World} {Ow : List Nat} {b r d m : Nat} {p : Pg} {f : Int → Value} {tv : Value} {dg : ByteArray} {x : Hst} {ww : World} (M : Mem w0 Ow b r d m p f tv [] dg x ww) : ∃ a cap, tv = .slice a 0 cap := by
 rcases M.ty.2 with ⟨e, _⟩ | ⟨g, cap, cur, e, _⟩
 ·exact ⟨_, _, e⟩
 ·exact ⟨_, _, e⟩
theorem kp0 {w0 : World} {Ow : List Nat} {b r d m : Nat} {p : Pg} {f : Int → Value} {tv : Value} {dg : ByteArray} {x : Hst} (c : UInt8) (mode : Int) (hm : mode = 1 ∨ mode = 2 ∨ mode = 3) :
  ∀ ww, Mem w0 Ow b r d m p f tv [] dg x ww → Calls Tryz.prog 47 #[.pointer (some ⟨b, 1, none⟩), .int .u8 c.toNat, .int .i64 mode] ww fun e w' => e = .returned (.tuple #[]) ∧ ∃ tv', Mem w0 Ow b r d m p f tv' [] dg x w' := by
 intro ww M
 rcases hm with hm | hm
 ·subst hm
  obtain ⟨a, cap, e⟩ := M.nil
  have M2 := M
  subst e
  refine Calls.mono (mKeep_insNo b r d a cap dg c.toNat ww M.bd) ?_
  rintro e w' ⟨rfl, hb⟩
  exact ⟨rfl, _, Mem.firm _ _ M2 hb⟩
 ·refine Calls.mono (mKeep_not b r d tv dg c.toNat mode ww M.bd hm) ?_
  rintro e w' ⟨rfl, hb⟩
  exact ⟨rfl, _, Mem.firm _ _ M hb⟩
theorem Mem.ended {w0 : World} {Ow : List Nat} {b r d m : Nat} {p : Pg} {f : Int → Value} {tv : Value} {ns : List UInt8} {dg dg' : ByteArray} {x : Hst} {ww w' : World} (M : Mem w0 Ow b r d m p f tv ns dg x ww) (X : Fix w0 Ow b r d m) (hb : BdAt w' b r d (.slice none 0 0) dg') (hu : Upd [b] ww w') : Mem w0 Ow b r d m p f (.slice none 0 0) [] dg' x w' := by
 have lb := X.lb
 have n1 : ∀ k, k ∈ [b] → p.back.ownBlock ≠ some k := by
  intro k hk e; simp at hk; have := (M.bl k e).1; omega
 have n2 : ∀ k, k ∈ [b] → p.forth.ownBlock ≠ some k := by
  intro k hk e; simp at hk; have := (M.fl k e).1; omega
 exact ⟨hb, M.rd.upd hu (by simp [X.ly.br.symm]) (by simp [X.ly.bd.symm]), M.rg.upd hu (by simp [X.ly.mb]), World.ownsRow_nil _ _ _ _, ownsRow_upd M.bk hu n1, ownsRow_upd M.fo hu n2, (fun k hk => by simp [Value.ownBlock] at hk), M.bl, M.fl, (fun k hk => by simp [Value.ownBlock] at hk), (fun k hk => by simp [Value.ownBlock] at hk), M.bf, updMore M.up hu (by intro k hk; left; simp at hk; simp [hk])⟩
theorem nums_str (ns : List UInt8) : strOfNums (ns.map (fun c => (c.toNat : Int))) = ⟨ns.toArray⟩ := by
 unfold strOfNums
 rw [List.map_map]
 have h : ((fun n : Int => UInt8.ofNat n.toNat) ∘ fun c : UInt8 => (c.toNat : Int)) = id := by
  funext c
  simp
 rw [h, List.map_id]
theorem en {w0 : World} {Ow : List Nat} {b r d m : Nat} (X : Fix w0 Ow b r d m) {p : Pg} {f : Int → Value} {tv : Value} {ns : List UInt8} {dg : ByteArray} {x : Hst} (O : Int) :
  ∀ ww, Mem w0 Ow b r d m p f tv ns dg x ww → Calls Tryz.prog 48 #[.pointer (some ⟨b, 1, none⟩), .int .i64 O] ww fun e w' => e = .returned (.tuple #[]) ∧ Mem w0 Ow b r d m p f (.slice none 0 0) [] (if O = 2 ∧ 0 < ns.length then ⟨ns.toArray⟩ else dg) x w' := by
 intro ww M
 by_cases h0 : 0 < ns.length
 ·by_cases hO : O = 2
  ·rw [if_pos ⟨hO, h0⟩]
   obtain ⟨g, cap, e, _⟩ := owned_some M.ty h0
   have M2 := M
   subst e
   subst hO
   have := mEnd_did b r d g ns.length cap (ns.map (fun c => (c.toNat : Int))) dg ww M.bd (by have := M.ty; simpa [Function.comp_def] using this) h0 qi
   rw [nums_str] at this
   refine Calls.mono this ?_
   rintro e w' ⟨rfl, h1, h2⟩
   exact ⟨rfl, M2.ended X h1 h2⟩
  ·rw [if_neg (fun h => hO h.1)]
   refine Calls.mono (mEnd b r d tv dg O ww M.bd hO) ?_
   rintro e w' ⟨rfl, h1, h2⟩
   exact ⟨rfl, M.ended X h1 h2⟩
 ·rw [if_neg (fun h => h0 h.2)]
  have hns : ns = [] := by cases ns with
   | nil => rfl
   | cons a l => simp at h0
  subst hns
  obtain ⟨a, cap, e⟩ := M.nil
  have M2 := M
  subst e
  refine Calls.mono (mEnd_no b r d a cap dg O ww M.bd) ?_
  rintro e w' ⟨rfl, h1, h2⟩
  exact ⟨rfl, M2.ended X h1 h2⟩
def orgT : ByteArray → List Stp → ByteArray
 | t, [] => t
 | t, s :: R => orgT (app t s) R
def pathT : Nat → ByteArray → List Stp → ByteArray
 | 0, t, _ => t
 | _ + 1, t, [] => t
 | j + 1, t, s :: R => pathT j (app t s) R
theorem orgT_keep (t now : ByteArray) (R : List Stp) : orgT t (mkS t now :: R) = orgT now R := by
 show orgT (app t (mkS t now)) R = _
 rw [app_mkS]
theorem orgT_wlk1 (x : Hst) : orgT (wlk1 x).1 (wlk1 x).2.1 = orgT x.1 x.2.1 := by
 rcases x with ⟨t, R, F⟩
 cases R <;> rfl
theorem orgT_wlkN (x : Hst) (n : Nat) : orgT (wlkN n x).1 (wlkN n x).2.1 = orgT x.1 x.2.1 := by
 induction n with
 | zero => rfl
 | succ n ih => exact (orgT_wlk1 _).trans ih
theorem orgT_swp1 (z : Hst) : orgT (wlk1 z).1 (wlk1 z).2.2.reverse = orgT z.1 z.2.2.reverse := by
 rcases z with ⟨t, R, F⟩
 cases R with
 | nil => rfl
 | cons s R =>
  show orgT (app t s) (F ++ [mkS (app t s) t]).reverse = orgT t F.reverse
  rw [List.reverse_append]
  exact orgT_keep _ _ _
theorem orgT_swpN (z : Hst) (n : Nat) : orgT (wlkN n z).1 (wlkN n z).2.2.reverse = orgT z.1 z.2.2.reverse := by
 induction n with
 | zero => rfl
 | succ n ih => exact (orgT_swp1 _).trans ih
theorem pathT_wlk1 (x : Hst) (j : Nat) (h : 0 < x.2.1.length) : pathT (j + 1) (wlk1 x).1 (wlk1 x).2.2.reverse = pathT j x.1 x.2.2.reverse := by
 rcases x with ⟨t, R, F⟩
 cases R with
 | nil => simp at h
 | cons s R =>
  show pathT (j + 1) (app t s) (F ++ [mkS (app t s) t]).reverse = pathT j t F.reverse
  rw [List.reverse_append]
  show pathT j (app (app t s) (mkS (app t s) t)) F.reverse = _
  rw [app_mkS]
def kpx (p : Pg) (x : Hst) : Hst := if p.t = p.now then x else (p.t, mkS p.t p.now :: x.2.1, [])
theorem orgT_kpx (p : Pg) (x : Hst) (h : p.now = x.1) : orgT (kpx p x).1 (kpx p x).2.1 = orgT x.1 x.2.1 := by
 unfold kpx
 split
 ·rfl
 ·rw [h]; exact orgT_keep _ _ _
theorem kpx_len (p : Pg) (x : Hst) : (kpx p x).2.1.length + (kpx p x).2.2.length ≤ x.2.1.length + x.2.2.length + 1 := by
 unfold kpx
 split
 ·omega
 ·simp
theorem hk {w0 : World} {Ow : List Nat} {b r d m : Nat} (X : Fix w0 Ow b r d m) (p : Pg) {f : Int → Value} {dg : ByteArray} {x : Hst} {N : Nat} (hg : GoodC m p) (ho : HOk p x N) (hN : N ≤ 100000) :
  ∀ ww, Mem w0 Ow b r d m p f (.slice none 0 0) [] dg x ww → Calls Tryz.prog 49 #[.pointer (some ⟨d, 5, none⟩), .string p.t] ww fun e w' => e = .returned (.tuple #[]) ∧ ∃ bk fo, HOk { p with now := p.t, back := bk, forth := fo } (kpx p x) (N + 1) ∧ Mem w0 Ow b r d m { p with now := p.t, back := bk, forth := fo } f (.slice none 0 0) [] dg (kpx p x) w' := by
 intro ww M
 have lb := X.lb; have lr := X.lr; have ld := X.ld; have lm := X.lm
 by_cases e : p.t = p.now
 ·refine Calls.mono (hKeep_same r d p ww M.rd e.symm) ?_
  rintro e1 w' ⟨rfl, hb⟩
  have hp : ({ p with now := p.t, back := p.back, forth := p.forth } : Pg) = p := by cases p; simp only at e; subst e; rfl
  have hx : kpx p x = x := if_pos e
  refine ⟨rfl, p.back, p.forth, ?_, ?_⟩ <;> rw [hx]
  ·rw [hp]; exact ⟨ho.now, ho.z, ho.b, ho.f, Nat.le_succ_of_le ho.n⟩
  ·rw [hp]; exact Mem.firm _ _ M hb
 ·have hz : p.now.size ≤ 1000 := by rw [ho.now]; exact ho.z
  refine Calls.mono (hKeep_new r d p x.2.1.length _ ww M.rd M.bk (fun e => by have := (M.bl d e).1; omega) (fun e => by have := (M.bl r e).1; omega) (by have := ho.n; omega) e hg.ts hz) ?_
  rintro e1 w' ⟨rfl, g, cap, R, O, F, U⟩
  have hw0 := M.up.size
  have hg0 : Free w0 Ow b r d m g := by
   rcases F with h | h
   ·exact M.bl g h
   ·exact X.fresh qo
  have nb : ∀ k, (k = b ∨ k = r ∨ k = d ∨ k = m) → ¬ k = d → k ∉ d :: own p.back := by
   intro k hz hzd hk
   rcases List.mem_cons.1 hk with e | e
   ·exact hzd e
   ·have := (M.bl k (mem_own.1 e)).1; omega
  have hx : kpx p x = (p.t, mkS p.t p.now :: x.2.1, []) := if_neg e
  refine ⟨rfl, .slice (some ⟨g, 0, none⟩) (x.2.1.length + 1) cap, .slice none 0 0, ?_, ?_⟩ <;> rw [hx]
  ·refine ⟨rfl, hg.ts, ?_, trivial, by have := ho.n; simp; omega⟩
   have := ho.b
   rw [← ho.now] at this
   exact OkS.keep this hg.ts hz
  ·refine ⟨M.bd.upd U (nb b qi X.ly.bd), R, M.rg.upd U (nb m qi X.ly.md), World.ownsRow_nil _ _ _ _, ?_, World.ownsRow_nil _ _ _ _, (fun k hk => by simp [Value.ownBlock] at hk), ?_, (fun k hk => by simp [Value.ownBlock] at hk), (fun k hk => by simp [Value.ownBlock] at hk), (fun k hk => by simp [Value.ownBlock] at hk), (fun k hk => by simp [Value.ownBlock]), updMore M.up U ?_⟩
   ·have : celS (mkS p.t p.now :: x.2.1).reverse = celS x.2.1.reverse ++ stp p.t p.now := by
     rw [List.reverse_cons, celS_app, celS_mk]
    show w'.ownsRow 0 130 3 _ (x.2.1.length + 1) (celS (mkS p.t p.now :: x.2.1).reverse)
    rw [this]
    exact O
   ·intro k hk
    have : g = k := by simpa [Value.ownBlock] using hk
    subst this
    exact hg0
   ·intro k hk
    rcases List.mem_cons.1 hk with e | e
    ·left; simp [e]
    ·exact (M.bl k (mem_own.1 e)).in
