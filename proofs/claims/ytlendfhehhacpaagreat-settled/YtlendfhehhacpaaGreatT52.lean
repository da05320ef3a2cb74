/- A part. -/
import Derived.Test.YtlendfhehhacpaaGreatT51
import Derived.Test.YtlendfhehhacpaaGreatT49
import Derived.Test.YtlendfhehhacpaaGreatT35
set_option linter.unusedVariables false
set_option linter.unusedSimpArgs false
set_option maxRecDepth 100000
set_option maxHeartbeats 8000000
namespace Go.Proofs.YtlendfhehhacpaaGreat
open Go.RowKit Nib Tryz
def nxtM (p : Pg) (key : Int) : Option Pg :=
 if ¬ p.part = 0 then (if p.part = 34 ∧ (key = 34 ∨ (97 ≤ key ∧ key ≤ 122)) then some { p with reg := key, part := 0 } else none)
 else if isD p.n key = true then some { p with n := nextN p.n key }
 else if key = 34 then (if waits p = true then none else some { p with part := 34 })
 else if key = 105 ∨ key = 97 ∨ isFind key = true ∨ key = 103 then some { p with part := key } else none
def insM (p : Pg) (key : Int) : Prop := p.part = 0 ∧ (key = 99 ∨ key = 115)
theorem sMarked (v : Int) (p : Pg) (f : Int → Value) (hg : GoodP p) (hf : GoodF f) (hm : p.mode = 2 ∨ p.mode = 3) (hv0 : p.verb = 0) (hv : isVb v) :
  ∃ (i j : Nat) (l : Bool) (O : Int) (p2 : Pg) (f2 : Int → Value), (∀ r d m (a : Ptr) ww, LA r d m (p.w a) f ww → qC 313 #[.agg #[.pointer (some ⟨r, 0, none⟩)]] ww (.agg #[.int .i64 (i : Int), .int .i64 (j : Int), .bool l])) ∧ Did p f 146 (fun r => #[.pointer (some ⟨r, 0, none⟩), .int .u8 v, .agg #[.int .i64 i, .int .i64 j, .bool l]]) O p2 f2 (v = 99) := by
 have ha := hg.an hm
 have hpl := hg.pl
 have fin : ∀ (i j : Nat) (l : Bool), i ≤ j → j ≤ p.t.size → (∀ r d m (a : Ptr) ww, LA r d m (p.w a) f ww → qC 313 #[.agg #[.pointer (some ⟨r, 0, none⟩)]] ww (.agg #[.int .i64 (i : Int), .int .i64 (j : Int), .bool l])) → ∃ (i j : Nat) (l : Bool) (O : Int) (p2 : Pg) (f2 : Int → Value), (∀ r d m (a : Ptr) ww, LA r d m (p.w a) f ww → qC 313 #[.agg #[.pointer (some ⟨r, 0, none⟩)]] ww (.agg #[.int .i64 (i : Int), .int .i64 (j : Int), .bool l])) ∧ Did p f 146 (fun r => #[.pointer (some ⟨r, 0, none⟩), .int .u8 v, .agg #[.int .i64 i, .int .i64 j, .bool l]]) O p2 f2 (v = 99) := by
  intro i j l hij hj HM
  obtain ⟨O, p2, f2, a1, a2, a3, a4, _, a5, a6, a7, HD⟩ := sDoD v p f i j l hg hf hv hij hj
  exact ⟨i, j, l, O, p2, f2, HM, a1, a2, a3, a4, a5, a6, ⟨a7.1, fun h => by unfold isV5 at h; omega, fun h => absurd hv0 h⟩, fun r d m a mr md rd ha => GivesB.more (HD r d m a mr md ha)⟩
 rcases hm with h2 | h3
 ·exact fin (min p.anchor p.pl) (min (max p.anchor p.pl + 1) p.t.size) false qo qo (fun r d m a ww hh => mMarked_bytes r d (p.w a) ww hh.1 hg.ts hpl ha h2)
 ·have e1 := fin_le hpl
  have e2 := fin_le ha
  have e3 := fin_ge p.t p.pl
  have e4 := beg_le p.t p.pl
  refine fin (min (beg p.t p.anchor) (beg p.t p.pl)) (max (Nib.fin p.t p.anchor) (Nib.fin p.t p.pl)) true qo qo (fun r d m a ww hh => ?_)
  have := mMarked_lines r d (p.w a) ww hh.1 hg.ts hpl ha h3
  rw [show ((min (beg p.t p.anchor) (beg p.t p.pl) : Nat) : Int) = min (beg p.t p.anchor : Int) (beg p.t p.pl) by omega, show ((max (Nib.fin p.t p.anchor) (Nib.fin p.t p.pl) : Nat) : Int) = max (Nib.fin p.t p.anchor : Int) (Nib.fin p.t p.pl) by omega]
  exact this
theorem sMCommand (HA : AnyOk) (p : Pg) (f : Int → Value) (key : Int) (hg : GoodP p) (gb : GoodB p) (hf : GoodF f) (hm : p.mode = 2 ∨ p.mode = 3) (hp : p.part = 0) (hv : p.verb = 0) (hd : isD p.n key = false) :
  StN p f 310 (fun r => #[.agg #[.pointer (some ⟨r, 0, none⟩)], .int .u8 key]) (nxtM p key) (insM p key) := by
 have hm1 : ¬ p.mode = 1 := by omega
 have hnx : nxtM p key = if key = 34 then (if waits p = true then none else some { p with part := 34 }) else if key = 105 ∨ key = 97 ∨ isFind key = true ∨ key = 103 then some { p with part := key } else none := by
  unfold nxtM
  rw [if_neg (fun h => h hp), hd, if_neg qd]
 have hik : insM p key ↔ (key = 99 ∨ key = 115) := by
  unfold insM
  rw [hp]
  simp
 rw [hnx]
 by_cases k1 : key = 34
 ·rw [if_pos k1]
  have go : ∀ O (p2 : Pg) f2, ∀ r d m (a : Ptr), m ≠ r → m ≠ d → r ≠ d → a.1 = .map (some m) → GivesB 149 #[.pointer (some ⟨r, 1, none⟩)] (LA r d m (p.w a) f) (LA r d m (p2.w a) f2) O [r, d, m] → GivesB 310 #[.agg #[.pointer (some ⟨r, 0, none⟩)], .int .u8 key] (LA r d m (p.w a) f) (LA r d m (p2.w a) f2) O [r, d, m] := fun O p2 f2 r d m a mr md rd ha h ww hh => mMCommand_lead r d (p.w a) key O (LA r d m (p.w a) f) (LA r d m (p2.w a) f2) [r, d, m] ww hh LA.firm LA.firm (fun _ h => h.1) k1 h
  cases hw : waits p with
  | true => exact Or.inr ⟨by rw [if_pos rfl], 4, p, f, Did.fail hg hf (fun r d m a mr md rd ha => go _ _ _ r d m a mr md rd ha (GivesB.ofW (fun ww hh => mLead_no r d (p.w a) ww hh hw)))⟩
  | false => exact Or.inl ⟨{ p with part := 34 }, by rw [if_neg qd], hg.begun p.reg p.n p.verb p.behind 34 hg.n hg.bh, ⟨gb.vb, Or.inr (Or.inr (Or.inr (Or.inl rfl))), fun h => absurd h hm1⟩, ⟨p.reg, p.n, p.verb, p.behind, 34, rfl⟩, fun r d m a mr md rd ha => go _ _ _ r d m a mr md rd ha (GivesB.ofr (fun ww hh => mLead_yes r d (p.w a) ww hh hw) mr md)⟩
 rw [if_neg k1]
 by_cases k2 : key = 105 ∨ key = 97
 ·exact Or.inl ⟨{ p with part := key }, by rw [if_pos qo], hg.begun p.reg p.n p.verb p.behind key hg.n hg.bh, ⟨gb.vb, Or.inr (Or.inr (Or.inr (Or.inr (Or.inr ⟨k2, Or.inr hm⟩)))), fun h => absurd h hm1⟩, ⟨p.reg, p.n, p.verb, p.behind, key, rfl⟩, fun r d m a mr md rd ha => fun ww hh => mMCommand_await r d (p.w a) key 0 (LA r d m (p.w a) f) (LA r d m (Pg.w { p with part := key } a) f) [r, d, m] ww hh LA.firm LA.firm (fun _ h => h.1) k2 (GivesB.ofr (fun w2 h2 => mAwait r d (p.w a) key w2 h2) mr md)⟩
 by_cases k4 : isFind key = true ∨ key = 103
 ·have hkc : ∀ c, c ∈ kMrk → ¬ key = c := by
   intro c hc e
   subst e
   unfold isFind at k4
   simp only [Bool.or_eq_true, beq_iff_eq] at k4
   simp only [kMrk, List.mem_cons, List.not_mem_nil, or_false] at hc
   omega
  refine Or.inl ⟨{ p with part := key }, by rw [if_pos (Or.inr (Or.inr k4))], hg.begun p.reg p.n p.verb p.behind key hg.n hg.bh, ⟨gb.vb, ?_, fun h => absurd h hm1⟩, ⟨p.reg, p.n, p.verb, p.behind, key, rfl⟩, fun r d m a mr md rd ha => GivesB.ofR (fun ww hh => mMCommand_way r d (p.w a) (Pg.w { p with part := key } a) key 0 ww hh hkc (fun w2 h2 => Calls.mono (mWay_part r d (p.w a) key w2 h2 k4) (fun _ _ ⟨a, b, c⟩ => ⟨a, b, c.mono qi⟩))) mr md⟩
  rcases k4 with h | h
  ·exact Or.inr (Or.inl h)
  ·exact Or.inr (Or.inr (Or.inl h))
 have k4' : isFind key = false ∧ ¬ key = 103 := by
  refine ⟨?_, fun e => k4 (Or.inr e)⟩
  cases h : isFind key
  ·rfl
  ·exact absurd (Or.inl h) k4
 refine Or.inr ⟨?_, ?_⟩
 ·rw [if_neg]
  rintro (h | h | h)
  ·exact k2 (Or.inl h)
  ·exact k2 (Or.inr h)
  ·exact k4 h
 by_cases k5 : key = 111
 ·have han := hg.an hm
  refine ⟨1, { p with anchor := p.pl, pl := clm p.t p.anchor }, f, Or.inl rfl, ⟨hg.ts, clm_in han, fun _ => clm_settled han, fun _ => hg.pl, hg.mo, hg.n, hg.bh, hg.fd⟩, hf, ⟨rfl, rfl, rfl⟩, (fun h => absurd h qd), (fun _ => by rw [hik]; show p.mode = 1 ↔ _; omega), ⟨fun h => absurd h qd, fun h => by unfold isV5 at h; omega, fun h => absurd hv h⟩, fun r d m a mr md rd ha => fun ww hh => mMCommand_ends r d (p.w a) key 1 (LA r d m (p.w a) f) (LA r d m (Pg.w { p with anchor := p.pl, pl := clm p.t p.anchor } a) f) [r, d, m] ww hh LA.firm LA.firm (fun _ h => h.1) k5 (GivesB.ofD (fun w2 h2 => mEnds r d (p.w a) w2 h2 hg.ts han) mr md)⟩
 by_cases k6 : key = 118 ∨ key = 86
 ·by_cases hM : p.mode = (if key = 86 then 3 else 2)
  ·refine ⟨1, { p with mode := 0, anchor := 0 }, f, Or.inl rfl, ⟨hg.ts, hg.pl, fun _ => hg.st hm1, fun _ => Nat.zero_le _, Or.inl rfl, hg.n, hg.bh, hg.fd⟩, hf, ⟨rfl, rfl, rfl⟩, (fun h => absurd h qd), (fun _ => ?_), ⟨fun h => absurd h qd, fun h => by unfold isV5 at h; omega, fun h => absurd hv h⟩, fun r d m a mr md rd ha => GivesB.ofR (fun ww hh => ?_) mr md⟩
   ·rw [hik]
    show (0 : Int) = 1 ↔ _
    omega
   ·have := mMCommand_turn r d (p.w a) key ww hh k6
    rw [if_pos hM] at this
    exact this
  ·refine ⟨1, { p with mode := if key = 86 then 3 else 2 }, f, Or.inl rfl, ⟨hg.ts, hg.pl, fun _ => hg.st hm1, fun _ => hg.an hm, ?_, hg.n, hg.bh, hg.fd⟩, hf, ⟨rfl, rfl, rfl⟩, (fun h => absurd h qd), (fun _ => ?_), ⟨fun h => absurd h qd, fun h => by unfold isV5 at h; omega, fun h => absurd hv h⟩, fun r d m a mr md rd ha => GivesB.ofR (fun ww hh => ?_) mr md⟩
   ·show (if key = 86 then (3 : Int) else 2) = 0 ∨ _
    split <;> simp
   ·rw [hik]
    show (if key = 86 then (3 : Int) else 2) = 1 ↔ _
    split <;> omega
   ·have := mMCommand_turn r d (p.w a) key ww hh k6
    rw [if_neg hM] at this
    exact this
 by_cases k7 : key = 120
 ·obtain ⟨i, j, l, O, p2, f2, HM, D⟩ := sMarked 100 p f hg hf hm hv (Or.inl rfl)
  exact ⟨O, p2, f2, (D.fn (fun r d m a mr md rd ha => fun ww hh => mMCommand_x r d (p.w a) key O i j l (LA r d m (p.w a) f) (LA r d m (p2.w a) f2) [r, d, m] ww hh LA.firm LA.firm (fun _ h => h.1) (tl3_of hh) k7 (HM r d m a) (D.c r d m a mr md rd ha))).iff (by rw [hik]; omega)⟩
 by_cases k8 : key = 115
 ·obtain ⟨i, j, l, O, p2, f2, HM, D⟩ := sMarked 99 p f hg hf hm hv (Or.inr (Or.inl rfl))
  exact ⟨O, p2, f2, (D.fn (fun r d m a mr md rd ha => fun ww hh => mMCommand_s r d (p.w a) key O i j l (LA r d m (p.w a) f) (LA r d m (p2.w a) f2) [r, d, m] ww hh LA.firm LA.firm (fun _ h => h.1) (tl3_of hh) k8 (HM r d m a) (D.c r d m a mr md rd ha))).iff (by rw [hik]; omega)⟩
 by_cases k9 : isVb key
 ·obtain ⟨i, j, l, O, p2, f2, HM, D⟩ := sMarked key p f hg hf hm hv k9
  exact ⟨O, p2, f2, (D.fn (fun r d m a mr md rd ha => fun ww hh => mMCommand_do r d (p.w a) key O i j l (LA r d m (p.w a) f) (LA r d m (p2.w a) f2) [r, d, m] ww hh LA.firm LA.firm (fun _ h => h.1) (tl3_of hh) k9 (HM r d m a) (D.c r d m a mr md rd ha))).iff (by rw [hik]; omega)⟩
 unfold isVb at k9
 have hkc : ∀ c, c ∈ kMrk → ¬ key = c := by
  intro c hc e
  subst e
  simp only [kMrk, List.mem_cons, List.not_mem_nil, or_false] at hc
  omega
 obtain ⟨O, p2, D⟩ := sWay0 HA p f key hg hf hm1 hv k4'.1 k4'.2
 exact ⟨O, p2, f, (D.fn (fun r d m a mr md rd ha => fun ww hh => mMCommand_wayB r d (p.w a) key O (LA r d m (p.w a) f) (LA r d m (p2.w a) f) [r, d, m] ww hh LA.firm LA.firm (fun _ h => h.1) hkc (D.c r d m a mr md rd ha))).iff (by rw [hik]; simp only [false_iff]; omega)⟩
theorem sTakeM (HA : AnyOk) (p : Pg) (f : Int → Value) (key : Int) (hg : GoodP p) (gb : GoodB p) (hf : GoodF f) (hm : p.mode = 2 ∨ p.mode = 3) :
  StN p f 309 (fun r => #[.agg #[.pointer (some ⟨r, 0, none⟩)], .int .u8 key]) (nxtM p key) (insM p key) := by
 have hm1 : ¬ p.mode = 1 := by omega
 have hv : p.verb = 0 := by
  rcases gb.vb with h | h
  ·exact h
  ·omega
 by_cases hp : p.part = 0
 ·cases hd : isD p.n key with
  | true => exact Or.inl ⟨{ p with n := nextN p.n key }, by unfold nxtM; rw [if_neg (fun h => h hp), if_pos hd], hg.begun p.reg _ p.verb p.behind p.part (nextN_le _ _) hg.bh, ⟨gb.vb, gb.pt, fun h => absurd h hm1⟩, ⟨p.reg, _, p.verb, p.behind, p.part, rfl⟩, fun r d m a mr md rd ha => GivesB.ofR (fun ww hh => mMTake_digit r d (p.w a) key ww hh hp hv hg.n hd) mr md⟩
  | false => exact StN.to (sMCommand HA p f key hg gb hf hm hp hv hd) (fun O p2 f2 r d m a mr md rd ha h ww hh => mMTake_cmdB r d (p.w a) key O (LA r d m (p.w a) f) (LA r d m (p2.w a) f2) [r, d, m] ww hh LA.firm LA.firm (fun _ h => h.1) hp hv hd h)
 ·have hnx : nxtM p key = if p.part = 34 ∧ (key = 34 ∨ (97 ≤ key ∧ key ≤ 122)) then some { p with reg := key, part := 0 } else none := by
   unfold nxtM
   rw [if_pos hp]
  have hik : insM p key ↔ False := by
   unfold insM
   simp [hp]
  rw [hnx]
  refine StN.to (fn := 145) (args := fun r => #[.pointer (some ⟨r, 0, none⟩), .int .u8 key]) ?_ (fun O p2 f2 r d m a mr md rd ha h ww hh => mMTake_partB r d (p.w a) key O (LA r d m (p.w a) f) (LA r d m (p2.w a) f2) [r, d, m] ww hh LA.firm LA.firm (fun _ h => h.1) hp h)
  by_cases h3 : p.part = 34
  ·have cn : ∀ O (p2 : Pg) f2, ∀ r d m (a : Ptr), m ≠ r → m ≠ d → r ≠ d → a.1 = .map (some m) → GivesB 165 #[.pointer (some ⟨r, 1, none⟩), .int .u8 key] (LA r d m (p.w a) f) (LA r d m (p2.w a) f2) O [r, d, m] → GivesB 145 #[.pointer (some ⟨r, 0, none⟩), .int .u8 key] (LA r d m (p.w a) f) (LA r d m (p2.w a) f2) O [r, d, m] := fun O p2 f2 r d m a mr md rd ha h ww hh => mComplete_name r d (p.w a) key O (LA r d m (p.w a) f) (LA r d m (p2.w a) f2) [r, d, m] ww hh LA.firm LA.firm (fun _ h => h.1) h3 h
   by_cases hk : key = 34 ∨ (97 ≤ key ∧ key ≤ 122)
   ·exact Or.inl ⟨{ p with reg := key, part := 0 }, by rw [if_pos ⟨h3, hk⟩], hg.begun key p.n p.verb p.behind 0 hg.n hg.bh, ⟨gb.vb, Or.inl rfl, fun h => absurd h hm1⟩, ⟨key, p.n, p.verb, p.behind, 0, rfl⟩, fun r d m a mr md rd ha => cn _ _ _ r d m a mr md rd ha (GivesB.ofr (fun ww hh => mName_yes r d (p.w a) key ww hh hk) mr md)⟩
   ·exact Or.inr ⟨by rw [if_neg (fun h => hk h.2)], 4, p, f, Did.fail hg hf (fun r d m a mr md rd ha => cn _ _ _ r d m a mr md rd ha (GivesB.ofW (fun ww _ => mName_no r key ww qo qo)))⟩
  ·have hpp : isFind p.part = true ∨ p.part = 103 ∨ p.part = 105 ∨ p.part = 97 := by
    rcases gb.pt with h | h | h | h | h | h
    ·exact absurd h hp
    ·exact Or.inl h
    ·exact Or.inr (Or.inl h)
    ·exact absurd h h3
    ·omega
    ·exact Or.inr (Or.inr h.1)
   obtain ⟨O, p2, f2, D⟩ := sComplete HA p f key hg gb hf hm1 hpp
   exact Or.inr ⟨by rw [if_neg (fun h => h3 h.1)], O, p2, f2, D.iff (by rw [hik, hv]; decide)⟩
structure Fix (w0 : World) (Ow : List Nat) (b r d m : Nat) : Prop where
 ly : Lay b r d m
 rd : r ≠ d
 lb : b < w0.heap.size
 lr : r < w0.heap.size
 ld : d < w0.heap.size
 lm : m < w0.heap.size
 nw : ∀ k, k ∈ Ow → k ≠ b ∧ k ≠ r ∧ k ≠ d ∧ k ≠ m
def Free (w0 : World) (Ow : List Nat) (b r d m k : Nat) : Prop := (k ≠ b ∧ k ≠ r ∧ k ≠ d ∧ k ≠ m) ∧ (k ∈ Ow ∨ w0.heap.size ≤ k)
theorem Fix.fresh {w0 : World} {Ow : List Nat} {b r d m k : Nat} (X : Fix w0 Ow b r d m) (h : w0.heap.size ≤ k) : Free w0 Ow b r d m k :=
 ⟨by have := X.lb; have := X.lr; have := X.ld; have := X.lm; omega, Or.inr h⟩
theorem Free.in {w0 : World} {Ow : List Nat} {b r d m k : Nat} (h : Free w0 Ow b r d m k) : k ∈ b :: r :: d :: m :: Ow ∨ w0.heap.size ≤ k := h.2.imp (fun h => by simp [h]) id
structure Mem (w0 : World) (Ow : List Nat) (b r d m : Nat) (p : Pg) (f : Int → Value) (tv : Value) (ns : List UInt8) (dg : ByteArray) (x : Hst) (ww : World) : Prop where
 bd : BdAt ww b r d tv dg
 rd : RdAt ww r d p
 rg : RgAt ww m f
 ty : ww.ownsRow 0 5 1 tv ns.length (ns.map (fun c => .int .u8 (c.toNat : Int)))
 bk : ww.ownsRow 0 130 3 p.back x.2.1.length (celS x.2.1.reverse)
 fo : ww.ownsRow 0 130 3 p.forth x.2.2.length (celS x.2.2)
 tl : ∀ k, tv.ownBlock = some k → Free w0 Ow b r d m k
 bl : ∀ k, p.back.ownBlock = some k → Free w0 Ow b r d m k
 fl : ∀ k, p.forth.ownBlock = some k → Free w0 Ow b r d m k
 tb : ∀ k, tv.ownBlock = some k → p.back.ownBlock ≠ some k
 tf : ∀ k, tv.ownBlock = some k → p.forth.ownBlock ≠ some k
 bf : ∀ k, p.back.ownBlock = some k → p.forth.ownBlock ≠ some k
 up : Upd (b :: r :: d :: m :: Ow) w0 ww
theorem Mem.firm {w0 : World} {Ow : List Nat} {b r d m : Nat} {p : Pg} {f : Int → Value} {tv : Value} {ns : List UInt8} {dg : ByteArray} {x : Hst} : Firm (Mem w0 Ow b r d m p f tv ns dg x) := fun _ _ h hb =>
 ⟨h.bd.below hb, h.rd.below hb, h.rg.below hb, ownsRow_upd h.ty (Upd.of_below (S := []) hb) qi, ownsRow_upd h.bk (Upd.of_below (S := []) hb) qi, ownsRow_upd h.fo (Upd.of_below (S := []) hb) qi, h.tl, h.bl, h.fl, h.tb, h.tf, h.bf, Upd.below h.up hb⟩
theorem Mem.la {w0 : World} {Ow : List Nat} {b r d m : Nat} {p : Pg} {f : Int → Value} {tv : Value} {ns : List UInt8} {dg : ByteArray} {x : Hst} {ww : World} (h : Mem w0 Ow b r d m p f tv ns dg x ww) : LA r d m p f ww := ⟨h.rd, h.rg⟩
theorem Mem.step {w0 : World} {Ow : List Nat} {b r d m : Nat} {p p2 : Pg} {f f2 : Int → Value} {tv : Value} {ns : List UInt8} {dg : ByteArray} {x : Hst} {ww w' : World} {S : List Nat} (h : Mem w0 Ow b r d m p f tv ns dg x ww) (X : Fix w0 Ow b r d m) (ha : LA r d m p2 f2 w') (hu : Upd S ww w') (hS : ∀ k, k ∈ S → k = r ∨ k = d ∨ k = m) (e1 : p2.back = p.back) (e2 : p2.forth = p.forth) : Mem w0 Ow b r d m p2 f2 tv ns dg x w' := by
 have lo := hS
 have k1 : ∀ k, k ∈ S → p.back.ownBlock ≠ some k := by
  intro k hk e
  have := lo k hk; have := (h.bl k e).1; omega
 have k2 : ∀ k, k ∈ S → p.forth.ownBlock ≠ some k := by
  intro k hk e
  have := lo k hk; have := (h.fl k e).1; omega
 refine ⟨h.bd.upd hu ?_, ha.1, ha.2, ownsRow_upd h.ty hu ?_, by rw [e1]; exact ownsRow_upd h.bk hu k1, by rw [e2]; exact ownsRow_upd h.fo hu k2, h.tl, by rw [e1]; exact h.bl, by rw [e2]; exact h.fl, by rw [e1]; exact h.tb, by rw [e2]; exact h.tf, by rw [e1, e2]; exact h.bf, updMore h.up hu ?_⟩
 ·intro hk
  rcases hS b hk with e | e | e
  ·exact X.ly.br e
  ·exact X.ly.bd e
  ·exact X.ly.mb e.symm
 ·intro k hk e
  have := lo k hk; have := (h.tl k e).1; omega
 ·intro k hk
  left
  rcases hS k hk with e | e | e <;> simp [e]
theorem GoodC.forget {m : Nat} {p : Pg} (h : GoodC m p) : GoodC m p.none' := ⟨h.ts, h.pl, h.st, h.an, h.mo, Nat.zero_le _, Nat.zero_le _, h.fd, h.rg⟩
theorem GoodB.none (p : Pg) : GoodB p.none' := ⟨Or.inl rfl, Or.inl rfl, fun _ => ⟨rfl, rfl, rfl, rfl, rfl⟩⟩
def TkR (w0 : World) (Ow : List Nat) (b r d m : Nat) (p : Pg) (f : Int → Value) (tv : Value) (ns : List UInt8) (dg : ByteArray) (h : Hst) (key : Int) (x : Option Pg) (i : Prop) : Prop :=
 (∃ p2, x = some p2 ∧ GoodC m p2 ∧ GoodB p2 ∧ BegD p p2 ∧ Hid (∀ ww, Mem w0 Ow b r d m p f tv ns dg h ww → Calls Tryz.prog 46 #[.pointer (some ⟨b, 0, none⟩), .int .u8 key] ww fun e w' => e = .returned (.int .i64 0) ∧ Mem w0 Ow b r d m p2 f tv ns dg h w')) ∨
 (x = none ∧ ∃ O p2 f2, (O = 1 ∨ O = 2 ∨ O = 4) ∧ GoodC m p2 ∧ GoodF f2 ∧ p2.none' = p2 ∧ (p2.now = p.now ∧ p2.back = p.back ∧ p2.forth = p.forth) ∧ (O = 4 → p2.mode = p.mode) ∧ (¬ O = 4 → (p2.mode = 1 ↔ i)) ∧ Hid (∀ ww, Mem w0 Ow b r d m p f tv ns dg h ww → Calls Tryz.prog 46 #[.pointer (some ⟨b, 0, none⟩), .int .u8 key] ww fun e w' => e = .returned (.int .i64 O) ∧ Mem w0 Ow b r d m p2 f2 tv ns dg h w'))
theorem LA.forget {r d m : Nat} (p : Pg) (f : Int → Value) (mr : m ≠ r) : Hid (∀ ww, LA r d m p f ww → Calls Tryz.prog 65 #[.pointer (some ⟨r, 1, none⟩)] ww fun e w' => e = .returned (.tuple #[]) ∧ LA r d m p.none' f w' ∧ Upd [r] ww w') :=
 fun ww hh => Calls.mono (mForget r d p ww hh.1) (fun _ _ ⟨a, b, c⟩ => ⟨a, ⟨b, hh.2.upd c (by simp [mr])⟩, c⟩)
theorem GoodP.forget {p : Pg} (h : GoodP p) : GoodP p.none' := ⟨h.ts, h.pl, h.st, h.an, h.mo, Nat.zero_le _, Nat.zero_le _, h.fd⟩
def TkC (p : Pg) (f : Int → Value) (key O : Int) (p2 : Pg) (f2 : Int → Value) : Prop :=
 ∀ (w0 : World) (Ow : List Nat) (b r d m : Nat) (a : Ptr) (tv : Value) (ns : List UInt8) (dg : ByteArray) (h : Hst), Fix w0 Ow b r d m → a.1 = .map (some m) → ∀ ww, Mem w0 Ow b r d m (p.w a) f tv ns dg h ww → Calls Tryz.prog 46 #[.pointer (some ⟨b, 0, none⟩), .int .u8 key] ww fun e w' => e = .returned (.int .i64 O) ∧ Mem w0 Ow b r d m (p2.w a) f2 tv ns dg h w'
def TkU (p : Pg) (f : Int → Value) (key : Int) (x : Option Pg) (i : Prop) : Prop :=
 (∃ p2, x = some p2 ∧ GoodP p2 ∧ GoodB p2 ∧ BegD p p2 ∧ TkC p f key 0 p2 f) ∨
 (x = none ∧ ∃ O p2 f2, (O = 1 ∨ O = 2 ∨ O = 4) ∧ GoodP p2 ∧ GoodF f2 ∧ p2.none' = p2 ∧ p2.now = p.now ∧ (O = 4 → p2.mode = p.mode) ∧ (¬ O = 4 → (p2.mode = 1 ↔ i)) ∧ FV p O p2 ∧ TkC p f key O p2 f2)
theorem TkU.r {w0 : World} {Ow : List Nat} {b r d m : Nat} (X : Fix w0 Ow b r d m) {p : Pg} {f : Int → Value} (tv : Value) (ns : List UInt8) (dg : ByteArray) (h : Hst) {key : Int} {x : Option Pg} {i : Prop} (hg : GoodC m p) (T : TkU p f key x i) : TkR w0 Ow b r d m p f tv ns dg h key x i := by
 rcases T with ⟨p2, h1, h2, h3, h4, h5⟩ | ⟨h1, O, p2, f2, a1, a2, a3, a4, a5, a6, a7, _, h5⟩
 ·obtain ⟨b1, b2, b3, b4, b5, e⟩ := h4
  subst e
  exact Or.inl ⟨_, h1, h2.c hg.rg, h3, ⟨b1, b2, b3, b4, b5, rfl⟩, fun ww M => h5 w0 Ow b r d m (p.regs, p.back, p.forth) tv ns dg h X hg.rg ww M⟩
 ·exact Or.inr ⟨h1, O, p2.w (p.regs, p.back, p.forth), f2, a1, ⟨a2.ts, a2.pl, a2.st, a2.an, a2.mo, a2.n, a2.bh, a2.fd, hg.rg⟩, a3, congrArg (fun q : Pg => q.w (p.regs, p.back, p.forth)) a4, ⟨a5, rfl, rfl⟩, a6, a7, fun ww M => h5 w0 Ow b r d m (p.regs, p.back, p.forth) tv ns dg h X hg.rg ww M⟩
theorem tkNU (HA : AnyOk) (p : Pg) (f : Int → Value) (c : UInt8) (hg : GoodP p) (gb : GoodB p) (hf : GoodF f) (hm : p.mode = 0) (hk : ¬ (c.toNat : Int) = 27) (hx : p.verb = 0 → p.part = 0 → ¬ (c.toNat : Int) = 117 ∧ ¬ (c.toNat : Int) = 18 ∧ ¬ (c.toNat : Int) = 46) :
  TkU p f c.toNat (nxt p c.toNat) (insK p c.toNat) := by
 rcases sTakeN HA p f c hg gb hf hm hx with ⟨p2, h1, h2, h3, h4, h5⟩ | ⟨h1, O, p2, f2, D⟩
 ·refine Or.inl ⟨p2, h1, h2, h3, h4, fun w0 Ow b r d m a tv ns dg h X ha ww M => Calls.mono (bTake_normal_moreB b r d tv dg (p.w a) c.toNat (LA r d m (p.w a) f) (LA r d m (p2.w a) f) [r, d, m] ww M.bd M.la LA.firm LA.firm (fun _ h => h.1) hm hk (h5 r d m a X.ly.mr X.ly.md X.rd ha)) ?_⟩
  rintro e w' ⟨rfl, l, u⟩
  exact ⟨rfl, M.step X l u qi rfl rfl⟩
 ·refine Or.inr ⟨h1, O, p2.none', f2, D.o, D.g.forget, D.gf, rfl, D.k.1, D.e, D.i, D.s, fun w0 Ow b r d m a tv ns dg h X ha ww M => Calls.mono (bTake_normal_doneB b r d tv dg (p.w a) c.toNat O (LA r d m (p2.none'.w a) f2) (LA r d m (p.w a) f) (LA r d m (p2.w a) f2) [r, d, m] ww M.bd M.la LA.firm LA.firm (fun _ h => h.1) hm hk (by simp [X.ly.br, X.ly.bd, X.ly.mb.symm]) (by have := D.o; omega) (by have := D.o; omega) LA.firm (fun _ h => ⟨p2.w a, h.1⟩) (LA.forget (p2.w a) f2 X.ly.mr) (D.c r d m a X.ly.mr X.ly.md X.rd ha)) ?_⟩
  rintro e w' ⟨rfl, l, u⟩
  exact ⟨rfl, M.step X l u qi rfl rfl⟩
theorem tkN (HA : AnyOk) {w0 : World} {Ow : List Nat} {b r d m : Nat} (X : Fix w0 Ow b r d m) (p : Pg) (f : Int → Value) (tv : Value) (ns : List UInt8) (dg : ByteArray) (h : Hst) (c : UInt8) (hg : GoodC m p) (gb : GoodB p) (hf : GoodF f) (hm : p.mode = 0) (hk : ¬ (c.toNat : Int) = 27) (hx : p.verb = 0 → p.part = 0 → ¬ (c.toNat : Int) = 117 ∧ ¬ (c.toNat : Int) = 18 ∧ ¬ (c.toNat : Int) = 46) :
  TkR w0 Ow b r d m p f tv ns dg h c.toNat (nxt p c.toNat) (insK p c.toNat) := (tkNU HA p f c hg.p gb hf hm hk hx).r X tv ns dg h hg
theorem tkMU (HA : AnyOk) (p : Pg) (f : Int → Value) (key : Int) (hg : GoodP p) (gb : GoodB p) (hf : GoodF f) (hm : p.mode = 2 ∨ p.mode = 3) (hk : ¬ key = 27) :
  TkU p f key (nxtM p key) (insM p key) := by
 rcases sTakeM HA p f key hg gb hf hm with ⟨p2, h1, h2, h3, h4, h5⟩ | ⟨h1, O, p2, f2, D⟩
 ·refine Or.inl ⟨p2, h1, h2, h3, h4, fun w0 Ow b r d m a tv ns dg h X ha ww M => Calls.mono (bTake_marking_moreB b r d tv dg (p.w a) key (LA r d m (p.w a) f) (LA r d m (p2.w a) f) [r, d, m] ww M.bd M.la LA.firm LA.firm (fun _ h => h.1) hm hk (h5 r d m a X.ly.mr X.ly.md X.rd ha)) ?_⟩
  rintro e w' ⟨rfl, l, u⟩
  exact ⟨rfl, M.step X l u qi rfl rfl⟩
 ·refine Or.inr ⟨h1, O, p2.none', f2, D.o, D.g.forget, D.gf, rfl, D.k.1, D.e, D.i, D.s, fun w0 Ow b r d m a tv ns dg h X ha ww M => Calls.mono (bTake_marking_doneB b r d tv dg (p.w a) key O (LA r d m (p2.none'.w a) f2) (LA r d m (p.w a) f) (LA r d m (p2.w a) f2) [r, d, m] ww M.bd M.la LA.firm LA.firm (fun _ h => h.1) hm hk (by simp [X.ly.br, X.ly.bd, X.ly.mb.symm]) (by have := D.o; omega) (by have := D.o; omega) LA.firm (fun _ h => ⟨p2.w a, h.1⟩) (LA.forget (p2.w a) f2 X.ly.mr) (D.c r d m a X.ly.mr X.ly.md X.rd ha)) ?_⟩
  rintro e w' ⟨rfl, l, u⟩
  exact ⟨rfl, M.step X l u qi rfl rfl⟩
theorem tkM (HA : AnyOk) {w0 : World} {Ow : List Nat} {b r d m : Nat} (X : Fix w0 Ow b r d m) (p : Pg) (f : Int → Value) (tv : Value) (ns : List UInt8) (dg : ByteArray) (h : Hst) (key : Int) (hg : GoodC m p) (gb : GoodB p) (hf : GoodF f) (hm : p.mode = 2 ∨ p.mode = 3) (hk : ¬ key = 27) :
  TkR w0 Ow b r d m p f tv ns dg h key (nxtM p key) (insM p key) := (tkMU HA p f key hg.p gb hf hm hk).r X tv ns dg h hg
theorem esc_settled {s : ByteArray} {q : Nat} (hq : q ≤ s.size) : max (q - 1) (beg s q) ≤ lst s (max (q - 1) (beg s q)) := by
 have h1 := beg_le s q
 have h2 := fin_ge s q
 have e1 := beg_same (s := s) (q := q) (x := max (q - 1) (beg s q)) qo qo
 have e2 := fin_same (s := s) (q := q) (x := max (q - 1) (beg s q)) hq qo qo
 unfold lst
 rw [e1, e2]
 split <;> omega
theorem insP_all (p : Pg) (c : UInt8) : (insP p c).now = p.now ∧ (insP p c).back = p.back ∧ (insP p c).forth = p.forth ∧ (insP p c).mode = p.mode := by
 unfold insP putP wipeP
 repeat' split
 all_goals exact ⟨rfl, rfl, rfl, rfl⟩
theorem insP_good {m : Nat} {p : Pg} (c : UInt8) (h : GoodC m p) (hm : p.mode = 1) : GoodC m (insP p c) := by
 have hp : ∀ bb : ByteArray, GoodC m (putP p bb) := by
  intro bb
  unfold putP
  split
  ·next hz =>
   refine ⟨hz, ?_, fun h => absurd hm h, fun h => by have : p.mode = 2 ∨ p.mode = 3 := h; omega, h.mo, h.n, h.bh, h.fd, h.rg⟩
   show p.pl + bb.size ≤ (put p.t bb p.pl).size
   have := h.pl
   unfold put
   simp only [ByteArray.size_append, ByteArray.size_extract]
   omega
  ·exact h
 unfold insP
 split
 ·exact hp _
 ·split
  ·unfold wipeP
   split
   ·exact h
   ·have := h.pl
    have := h.ts
    refine ⟨?_, ?_, fun h => absurd hm h, fun h => by have : p.mode = 2 ∨ p.mode = 3 := h; omega, h.mo, h.n, h.bh, h.fd, h.rg⟩
    ·show (p.t.extract 0 (p.pl - 1) ++ p.t.extract p.pl p.t.size).size ≤ 1000
     simp only [ByteArray.size_append, ByteArray.size_extract]
     omega
    ·show p.pl - 1 ≤ (p.t.extract 0 (p.pl - 1) ++ p.t.extract p.pl p.t.size).size
     simp only [ByteArray.size_append, ByteArray.size_extract]
     omega
  ·split
   ·exact hp _
   ·exact h
theorem tkI {w0 : World} {Ow : List Nat} {b r d m : Nat} (X : Fix w0 Ow b r d m) (p : Pg) (f : Int → Value) (tv : Value) (ns : List UInt8) (dg : ByteArray) (h : Hst) (c : UInt8) (hg : GoodC m p) (hm : p.mode = 1) (hk : ¬ (c.toNat : Int) = 27) :
  ∀ ww, Mem w0 Ow b r d m p f tv ns dg h ww → Calls Tryz.prog 46 #[.pointer (some ⟨b, 0, none⟩), .int .u8 c.toNat] ww fun e w' => e = .returned (.int .i64 1) ∧ Mem w0 Ow b r d m (insP p c).none' f tv ns dg h w' := by
 intro ww M
 refine Calls.mono (bTake_insert b r d tv dg p c ww M.bd M.rd hm hk X.ly.br X.ly.bd hg.ts hg.pl) ?_
 rintro e w' ⟨rfl, a, u⟩
 obtain ⟨_, e2, e3, _⟩ := insP_all p c
 exact ⟨rfl, M.step X ⟨a, M.rg.upd u (by simp [X.ly.mr, X.ly.md])⟩ u (by intro k hk; simp at hk; omega) e2 e3⟩
theorem escG {m : Nat} {p : Pg} (h : GoodC m p) : GoodC m { p with pl := escPl p, mode := 0, anchor := 0 } := by
 have h1 := h.pl
 have h2 := beg_le p.t p.pl
 exact ⟨h.ts, by show max (p.pl - 1) (beg p.t p.pl) ≤ p.t.size; omega, fun _ => esc_settled h.pl, fun _ => Nat.zero_le _, Or.inl rfl, h.n, h.bh, h.fd, h.rg⟩
theorem tkE {w0 : World} {Ow : List Nat} {b r d m : Nat} (X : Fix w0 Ow b r d m) (p : Pg) (f : Int → Value) (tv : Value) (ns : List UInt8) (dg : ByteArray) (h : Hst) (hg : GoodC m p) (hm : p.mode = 1) :
  ∀ ww, Mem w0 Ow b r d m p f tv ns dg h ww → Calls Tryz.prog 46 #[.pointer (some ⟨b, 0, none⟩), .int .u8 27] ww fun e w' => e = .returned (.int .i64 2) ∧ Mem w0 Ow b r d m { p with pl := escPl p, mode := 0, anchor := 0 } f tv ns dg h w' := by
 intro ww M
 refine Calls.mono (bTake_insert_esc b r d tv dg p ww M.bd M.rd hm hg.ts hg.pl) ?_
 rintro e w' ⟨rfl, a, u⟩
 exact ⟨rfl, M.step X ⟨a, M.rg.upd u (by simp [X.ly.mr, X.ly.md])⟩ u (by intro k hk; simp at hk; omega) rfl rfl⟩
theorem escN {m : Nat} {p : Pg} (h : GoodC m p) (hm : ¬ p.mode = 1) : GoodC m { p.none' with mode := 0, anchor := 0 } :=
 ⟨h.ts, h.pl, fun _ => h.st hm, fun _ => Nat.zero_le _, Or.inl rfl, Nat.zero_le _, Nat.zero_le _, h.fd, h.rg⟩
theorem tkX {w0 : World} {Ow : List Nat} {b r d m : Nat} (X : Fix w0 Ow b r d m) (p : Pg) (f : Int → Value) (tv : Value) (ns : List UInt8) (dg : ByteArray) (h : Hst) (hg : GoodC m p) (hm : ¬ p.mode = 1) :
  ∀ ww, Mem w0 Ow b r d m p f tv ns dg h ww → Calls Tryz.prog 46 #[.pointer (some ⟨b, 0, none⟩), .int .u8 27] ww fun e w' => e = .returned (.int .i64 1) ∧ Mem w0 Ow b r d m { p.none' with mode := 0, anchor := 0 } f tv ns dg h w' := by
 intro ww M
 have fin : ∀ w', RdAt w' r d { p.none' with mode := 0, anchor := 0 } → Upd [r, d] ww w' → Mem w0 Ow b r d m { p.none' with mode := 0, anchor := 0 } f tv ns dg h w' := fun w' a u =>
  M.step X ⟨a, M.rg.upd u (by simp [X.ly.mr, X.ly.md])⟩ u (by intro k hk; simp at hk; omega) rfl rfl
 by_cases h0 : p.mode = 0
 ·exact Calls.mono (bTake_normal_esc b r d tv dg p ww M.bd M.rd h0) (fun _ w' ⟨x, y, z⟩ => ⟨x, fin w' y z⟩)
 ·have h1 := hg.mo
  exact Calls.mono (bTake_marking_esc b r d tv dg p ww M.bd M.rd qo) (fun _ w' ⟨x, y, z⟩ => ⟨x, fin w' y z⟩)
def bg (p : Pg) : Pg := ⟨⟨#[]⟩, 0, 0, 0, .map none, ⟨#[]⟩, .map none, .map none, 0, 0, p.reg, p.n, p.verb, p.behind, p.part⟩
def bg0 : Pg := ⟨⟨#[]⟩, 0, 0, 0, .map none, ⟨#[]⟩, .map none, .map none, 0, 0, 0, 0, 0, 0, 0⟩
theorem nxt_bg (p : Pg) (k : Int) : nxt (bg p) k = (nxt p k).map bg := by
 have hw : waits (bg p) = waits p := rfl
 have q1 : (bg p).part = p.part := rfl
 have q2 : (bg p).verb = p.verb := rfl
 have q3 : (bg p).n = p.n := rfl
 have q4 : (bg p).behind = p.behind := rfl
 unfold nxt nxtP nxtB nxtC
 simp only [hw, q1, q2, q3, q4]
 by_cases c1 : p.part = 0
 ·have c1' : ¬ ¬ p.part = 0 := fun h => h c1
  simp only [if_neg c1']
  by_cases c2 : p.verb = 0
  ·simp only [if_pos c2]
   by_cases c3 : isD p.n k = true
   ·simp only [if_pos c3]; rfl
   ·simp only [if_neg c3]
    by_cases c4 : k = 34
    ·simp only [if_pos c4]
     by_cases c5 : waits p = true
     ·simp only [if_pos c5]; rfl
     ·simp only [if_neg c5]; rfl
    ·simp only [if_neg c4]
     by_cases c5 : k = 100 ∨ k = 99 ∨ k = 121 ∨ k = 62 ∨ k = 60
     ·simp only [if_pos c5]; rfl
     ·simp only [if_neg c5]
      by_cases c6 : k = 114 ∨ isFind k = true ∨ k = 103
      ·simp only [if_pos c6]; rfl
      ·simp only [if_neg c6]; rfl
  ·simp only [if_neg c2]
   by_cases c3 : isD p.behind k = true
   ·simp only [if_pos c3]; rfl
   ·simp only [if_neg c3]
    by_cases c4 : k = p.verb
    ·simp only [if_pos c4]; rfl
    ·simp only [if_neg c4]
     by_cases c5 : k = 105 ∨ k = 97 ∨ isFind k = true ∨ k = 103
     ·simp only [if_pos c5]; rfl
     ·simp only [if_neg c5]; rfl
 ·simp only [if_pos c1]
  by_cases c2 : p.part = 103 ∧ p.verb = 0 ∧ (k = 117 ∨ k = 85)
  ·simp only [if_pos c2]; rfl
  ·simp only [if_neg c2]
   by_cases c3 : p.part = 34 ∧ (k = 34 ∨ (97 ≤ k ∧ k ≤ 122))
   ·simp only [if_pos c3]; rfl
   ·simp only [if_neg c3]; rfl
def okK (p : Pg) (k : Int) : Prop := ¬ k = 27 ∧ (p.verb = 0 → p.part = 0 → ¬ k = 117 ∧ ¬ k = 18 ∧ ¬ k = 46)
theorem isFind_num {k : Int} (h : isFind k = true) : k = 102 ∨ k = 116 ∨ k = 70 ∨ k = 84 := by
 unfold isFind at h
 simp only [Bool.or_eq_true, beq_iff_eq] at h
 omega
theorem nxt_ok {p q : Pg} {k : Int} (h : nxt p k = some q) (hv : p.verb = 0 ∨ isVb p.verb) : okK p k := by
 unfold nxt nxtP nxtB nxtC at h
 unfold okK
 by_cases c1 : p.part = 0
 ·rw [if_neg (fun h => h c1)] at h
  by_cases c2 : p.verb = 0
  ·rw [if_pos c2] at h
   by_cases c3 : isD p.n k = true
   ·unfold isD at c3; simp only [decide_eq_true_eq] at c3; omega
   ·rw [if_neg c3] at h
    by_cases c4 : k = 34
    ·omega
    ·rw [if_neg c4] at h
     by_cases c5 : k = 100 ∨ k = 99 ∨ k = 121 ∨ k = 62 ∨ k = 60
     ·omega
     ·rw [if_neg c5] at h
      by_cases c6 : k = 114 ∨ isFind k = true ∨ k = 103
      ·rcases c6 with c | c | c
       ·omega
       ·have := isFind_num c; omega
       ·omega
      ·rw [if_neg c6] at h; cases h
  ·rw [if_neg c2] at h
   refine ⟨?_, fun e => absurd e c2⟩
   by_cases c3 : isD p.behind k = true
   ·unfold isD at c3; simp only [decide_eq_true_eq] at c3; omega
   ·rw [if_neg c3] at h
    by_cases c4 : k = p.verb
    ·rw [if_pos c4] at h; cases h
    ·rw [if_neg c4] at h
     by_cases c5 : k = 105 ∨ k = 97 ∨ isFind k = true ∨ k = 103
     ·rcases c5 with c | c | c | c
      ·omega
      ·omega
      ·have := isFind_num c; omega
      ·omega
     ·rw [if_neg c5] at h; cases h
 ·rw [if_pos c1] at h
  refine ⟨?_, fun _ e => absurd e c1⟩
  by_cases c2 : p.part = 103 ∧ p.verb = 0 ∧ (k = 117 ∨ k = 85)
  ·omega
  ·rw [if_neg c2] at h
   by_cases c3 : p.part = 34 ∧ (k = 34 ∨ (97 ≤ k ∧ k ≤ 122))
   ·omega
   ·rw [if_neg c3] at h; cases h
def runK : Pg → List UInt8 → Option Pg
 | q, [] => some q
 | q, c :: cs => (nxt q (c.toNat : Int)).bind (fun q2 => runK q2 cs)
theorem runK_add (q : Pg) (a : List UInt8) (c : UInt8) : runK q (a ++ [c]) = (runK q a).bind (fun q2 => nxt q2 (c.toNat : Int)) := by
 induction a generalizing q with
 | nil => simp [runK]
 | cons k a ih =>
  show (nxt q (k.toNat : Int)).bind (fun q2 => runK q2 (a ++ [c])) = ((nxt q (k.toNat : Int)).bind (fun q2 => runK q2 a)).bind _
  cases nxt q (k.toNat : Int) with
  | none => rfl
  | some q2 => exact ih q2
def Ph (p : Pg) (rest : List UInt8) : Prop :=
 (p.mode = 0 ∧ ∃ us c is q, rest = us ++ c :: is ∧ runK (bg p) us = some q ∧ okK q (c.toNat : Int) ∧ nxt q (c.toNat : Int) = none ∧ ((¬ insK q (c.toNat : Int) ∧ is = []) ∨ (insK q (c.toNat : Int) ∧ ∃ js, is = js ++ [27] ∧ ∀ k, k ∈ js → ¬ (k.toNat : Int) = 27)))
 ∨ (p.mode = 1 ∧ ∃ js, rest = js ++ [27] ∧ ∀ k, k ∈ js → ¬ (k.toNat : Int) = 27)
 ∨ (¬ p.mode = 1 ∧ p.none' = p ∧ rest = [])
theorem Ph.step (HA : AnyOk) {w0 : World} {Ow : List Nat} {b r d m : Nat} (X : Fix w0 Ow b r d m) (p : Pg) (f : Int → Value) (tv : Value) (ns : List UInt8) (dg : ByteArray) (h : Hst) (c : UInt8) (cs : List UInt8) (hg : GoodC m p) (gb : GoodB p) (hf : GoodF f) (ph : Ph p (c :: cs)) :
  ∃ (O : Int) (p2 : Pg) (f2 : Int → Value), GoodC m p2 ∧ GoodB p2 ∧ GoodF f2 ∧ (p2.now = p.now ∧ p2.back = p.back ∧ p2.forth = p.forth) ∧ (O = 4 → p2.none' = p2 ∧ ¬ p2.mode = 1) ∧ (¬ O = 4 → Ph p2 cs) ∧ ∀ ww, Mem w0 Ow b r d m p f tv ns dg h ww → Calls Tryz.prog 46 #[.pointer (some ⟨b, 0, none⟩), .int .u8 c.toNat] ww fun e w' => e = .returned (.int .i64 O) ∧ Mem w0 Ow b r d m p2 f2 tv ns dg h w' := by
 rcases ph with ⟨hm, us, k, is, q, h1, h2, h3, h4, h5⟩ | ⟨hm, js, h1, h2⟩ | ⟨_, _, h1⟩
 ·cases us with
  | nil =>
   simp only [List.nil_append, List.cons.injEq] at h1
   obtain ⟨e1, e2⟩ := h1
   subst e1; subst e2
   simp only [runK, Option.some.injEq] at h2
   subst h2
   have hn : nxt p (c.toNat : Int) = none := by
    rw [nxt_bg] at h4
    cases hx : nxt p (c.toNat : Int) with
    | none => rfl
    | some y => rw [hx] at h4; cases h4
   rcases tkN HA X p f tv ns dg h c hg gb hf hm h3.1 h3.2 with ⟨p2, g1, _⟩ | ⟨_, O, p2, f2, g1, g2, g3, g4, g5, g6, g7, g8⟩
   ·rw [hn] at g1; cases g1
   ·refine ⟨O, p2, f2, g2, g4 ▸ GoodB.none p2, g3, g5, fun e => ⟨g4, by rw [g6 e, hm]; decide⟩, fun e => ?_, g8⟩
    have hi : p2.mode = 1 ↔ insK (bg p) (c.toNat : Int) := g7 e
    rcases h5 with ⟨a1, a2⟩ | ⟨a1, js, a2, a3⟩
    ·exact Or.inr (Or.inr ⟨fun e => a1 (hi.1 e), g4, a2⟩)
    ·exact Or.inr (Or.inl ⟨hi.2 a1, js, a2, a3⟩)
  | cons a us =>
   simp only [List.cons_append, List.cons.injEq] at h1
   obtain ⟨e1, e2⟩ := h1
   subst e1
   have hr : (nxt (bg p) (c.toNat : Int)).bind (fun q2 => runK q2 us) = some q := h2
   rw [nxt_bg] at hr
   cases hx : nxt p (c.toNat : Int) with
   | none => rw [hx] at hr; cases hr
   | some y =>
    rw [hx] at hr
    have ok := nxt_ok hx (isVb_or gb)
    rcases tkN HA X p f tv ns dg h c hg gb hf hm ok.1 ok.2 with ⟨p2, g1, g2, g3, g4, g5⟩ | ⟨g1, _⟩
    ·rw [hx] at g1
     injection g1 with g1
     subst g1
     obtain ⟨a1, a2, a3, a4, a5, rfl⟩ := g4
     exact ⟨0, _, f, g2, g3, hf, ⟨rfl, rfl, rfl⟩, (fun e => absurd e qd), (fun _ => Or.inl ⟨hm, us, k, is, q, e2, hr, h3, h4, h5⟩), g5⟩
    ·rw [hx] at g1; cases g1
 ·cases js with
  | nil =>
   simp only [List.nil_append, List.cons.injEq] at h1
   obtain ⟨e1, e2⟩ := h1
   subst e1; subst e2
   have hb := gb.ins hm
   have hn : ({ p with pl := escPl p, mode := 0, anchor := 0 } : Pg).none' = { p with pl := escPl p, mode := 0, anchor := 0 } := by
    obtain ⟨z1, z2, z3, z4, z5⟩ := hb
    show ({ p with pl := escPl p, mode := 0, anchor := 0, reg := 0, n := 0, verb := 0, behind := 0, part := 0 } : Pg) = _
    rw [z1, z2, z3, z4, z5]
   exact ⟨2, { p with pl := escPl p, mode := 0, anchor := 0 }, f, escG hg, hn ▸ GoodB.none _, hf, ⟨rfl, rfl, rfl⟩, (fun e => absurd e qd), (fun _ => Or.inr (Or.inr ⟨by show ¬ (0 : Int) = 1; decide, hn, rfl⟩)), tkE X p f tv ns dg h hg hm⟩
  | cons j js =>
   simp only [List.cons_append, List.cons.injEq] at h1
   obtain ⟨e1, e2⟩ := h1
   subst e1
   obtain ⟨a1, a2, a3, a4⟩ := insP_all p c
   exact ⟨1, (insP p c).none', f, (insP_good c hg hm).forget, GoodB.none _, hf, ⟨a1, a2, a3⟩, (fun e => absurd e qd), (fun _ => Or.inr (Or.inl ⟨by show (insP p c).mode = 1; rw [a4, hm], js, e2, fun k hk => h2 k (List.mem_cons_of_mem _ hk)⟩)), tkI X p f tv ns dg h c hg hm (h2 c (List.mem_cons_self ..))⟩
 ·cases h1
structure HOk (p : Pg) (x : Hst) (N : Nat) : Prop where
 now : p.now = x.1
 z : x.1.size ≤ 1000
 b : OkS x.1 x.2.1
 f : OkS x.1 x.2.2.reverse
 n : x.2.1.length + x.2.2.length ≤ N
def Went (w0 : World) (Ow : List Nat) (b r d m : Nat) (f : Int → Value) (tv : Value) (ns : List UInt8) (dg : ByteArray) (q : Pg) (y : Hst) (N : Nat) (ww : World) : Prop :=
 ∃ p2, (∃ bk fo, p2 = { q with back := bk, forth := fo }) ∧ GoodC m p2 ∧ p2.mode = 0 ∧ p2.t = p2.now ∧ HOk p2 y N ∧ Mem w0 Ow b r d m p2 f tv ns dg y ww
def WentN (w0 : World) (Ow : List Nat) (b r d m : Nat) (f : Int → Value) (tv : Value) (ns : List UInt8) (dg : ByteArray) (q : Pg) (y : Hst) (N : Nat) (ww : World) : Prop :=
 ∃ p2, (∃ bk fo, p2 = { q with back := bk, forth := fo }) ∧ GoodC m p2 ∧ p2.none' = p2 ∧ p2.mode = 0 ∧ p2.t = p2.now ∧ HOk p2 y N ∧ Mem w0 Ow b r d m p2 f tv ns dg y ww
theorem Went.firm {w0 : World} {Ow : List Nat} {b r d m : Nat} {f : Int → Value} {tv : Value} {ns : List UInt8} {dg : ByteArray} {q : Pg} {y : Hst} {N : Nat} : Firm (Went w0 Ow b r d m f tv ns dg q y N) := by
 rintro w w' ⟨p2, h0, h1, h2, h3, h4, M⟩ hb
 exact ⟨p2, h0, h1, h2, h3, h4, Mem.firm _ _ M hb⟩
theorem WentN.firm {w0 : World} {Ow : List Nat} {b r d m : Nat} {f : Int → Value} {tv : Value} {ns : List UInt8} {dg : ByteArray} {q : Pg} {y : Hst} {N : Nat} : Firm (WentN w0 Ow b r d m f tv ns dg q y N) := by
 rintro w w' ⟨p2, h0, h1, h2, h3, h4, h5, M⟩ hb
 exact ⟨p2, h0, h1, h2, h3, h4, h5, Mem.firm _ _ M hb⟩
theorem goT_good {m : Nat} {p : Pg} (h : GoodC m p) (hm : p.mode = 0) (t : ByteArray) (ht : t.size ≤ 1000) (a b : Value) : GoodC m { goT p t with now := t, back := a, forth := b } := by
 unfold goT
 split
 ·exact ⟨h.ts, h.pl, h.st, h.an, h.mo, h.n, h.bh, h.fd, h.rg⟩
 ·have ha := ahd_le t p.t
  have hq : ahd t p.t ≤ t.size := by omega
  exact ⟨ht, clm_in hq, fun _ => clm_settled hq, fun h => by have : p.mode = 2 ∨ p.mode = 3 := h; omega, h.mo, h.n, h.bh, h.fd, h.rg⟩
theorem goT_t (p : Pg) (t : ByteArray) : (goT p t).t = t ∧ (goT p t).mode = p.mode ∧ (goT p t).forth = p.forth ∧ (goT p t).back = p.back := by
 unfold goT
 split
 ·next h => exact ⟨h.symm, rfl, rfl, rfl⟩
 ·exact ⟨rfl, rfl, rfl, rfl⟩
theorem tkH {w0 : World} {Ow : List Nat} {b r d m : Nat} (X : Fix w0 Ow b r d m) (p : Pg) (f : Int → Value) (tv : Value) (ns : List UInt8) (dg : ByteArray) (q : Pg) (x y : Hst) (N : Nat) (key O : Int) (T : List Nat) (hm : p.mode = 0) (hv : p.verb = 0) (hp : p.part = 0) (hk : ¬ key = 27) (hd : isD p.n key = false) (hO : O = 1 ∨ O = 4) (hbT : b ∉ T)
  (HC : GivesB 141 #[.agg #[.pointer (some ⟨r, 0, none⟩)], .int .u8 key] (Mem w0 Ow b r d m p f tv ns dg x) (Went w0 Ow b r d m f tv ns dg q y N) O T) :
  ∀ ww, Mem w0 Ow b r d m p f tv ns dg x ww → Calls Tryz.prog 46 #[.pointer (some ⟨b, 0, none⟩), .int .u8 key] ww fun e w' => e = .returned (.int .i64 O) ∧ WentN w0 Ow b r d m f tv ns dg q.none' y N w' := by
 intro ww M
 refine Calls.mono (bTake_normal_doneB b r d tv dg p key O (WentN w0 Ow b r d m f tv ns dg q.none' y N) (Mem w0 Ow b r d m p f tv ns dg x) (Went w0 Ow b r d m f tv ns dg q y N) T ww M.bd M Mem.firm Went.firm (fun _ h => h.rd) hm hk hbT qo qo WentN.firm ?_ ?_ (fun w2 M2 => mTake_cmdB r d p key O (Mem w0 Ow b r d m p f tv ns dg x) (Went w0 Ow b r d m f tv ns dg q y N) T w2 M2 Mem.firm Went.firm (fun _ h => h.rd) hp hv hd HC)) ?_
 ·rintro w2 ⟨p2, _, _, _, _, _, M2⟩
  exact ⟨p2, M2.rd⟩
 ·rintro w2 ⟨p2, ⟨bk, fo, h0⟩, h1, h2, h3, h4, M2⟩
  refine Calls.mono (mForget r d p2 w2 M2.rd) ?_
  rintro e w' ⟨rfl, a, u⟩
  exact ⟨rfl, ⟨p2.none', ⟨bk, fo, by rw [h0]⟩, h1.forget, rfl, h2, h3, ⟨h4.now, h4.z, h4.b, h4.f, h4.n⟩, M2.step X ⟨a, M2.rg.upd u (by simp [X.ly.mr])⟩ u (by intro k hk; simp at hk; omega) rfl rfl⟩, u⟩
 ·rintro e w' ⟨rfl, a, _⟩
  exact ⟨rfl, a⟩
def uQ (p : Pg) (t : ByteArray) : Pg := { goT p t with now := t }
theorem uQ_same {p : Pg} {t : ByteArray} (h1 : p.t = t) (h2 : p.now = t) : uQ p t = p := by
 have e : goT p t = p := by unfold goT; rw [if_pos h1.symm]
 unfold uQ
 rw [e, ← h2]
theorem tkU {w0 : World} {Ow : List Nat} {b r d m : Nat} (X : Fix w0 Ow b r d m) (p : Pg) (f : Int → Value) (tv : Value) (ns : List UInt8) (dg : ByteArray) (x : Hst) (N : Nat) (hg : GoodC m p) (hm : p.mode = 0) (hv : p.verb = 0) (hp : p.part = 0) (ht : p.t = p.now) (ho : HOk p x N) (hN : N ≤ 100000) :
  ∀ ww, Mem w0 Ow b r d m p f tv ns dg x ww → Calls Tryz.prog 46 #[.pointer (some ⟨b, 0, none⟩), .int .u8 117] ww fun e w' => e = .returned (.int .i64 (if x.2.1.length = 0 then 4 else 1)) ∧ WentN w0 Ow b r d m f tv ns dg (uQ p (wlkN (min (max (cnt p) 1) x.2.1.length) x).1).none' (wlkN (min (max (cnt p) 1) x.2.1.length) x) N w' := by
 intro ww M
 have hd0 : isD p.n 117 = false := by unfold isD; simp
 have lb := X.lb; have lr := X.lr; have ld := X.ld; have lm := X.lm
 by_cases h0 : x.2.1.length = 0
 ·have hb : ∃ a cap, p.back = .slice a 0 cap := by
   have := M.bk
   rw [h0] at this
   rcases this.2 with ⟨e, _⟩ | ⟨g, cap, cur, e, _⟩
   ·exact ⟨_, _, e⟩
   ·exact ⟨_, _, e⟩
  obtain ⟨a, cap, hb⟩ := hb
  refine Calls.mono (tkH X p f tv ns dg p x x N 117 4 [] hm hv hp qd hd0 (Or.inr rfl) qi (fun w2 M2 => Calls.mono (mCommand_u_no r d p a cap w2 M2.rd hb hg.n hg.bh) ?_) ww M) ?_
  ·rintro e w' ⟨rfl, hbl⟩
   exact ⟨rfl, ⟨p, ⟨p.back, p.forth, rfl⟩, hg, hm, ht, ho, Mem.firm _ _ M2 hbl⟩, Upd.of_below hbl⟩
  ·rintro e w' ⟨rfl, h⟩
   refine ⟨by rw [if_pos h0], ?_⟩
   rw [h0, Nat.min_zero]
   show WentN w0 Ow b r d m f tv ns dg (uQ p x.1).none' x N w'
   rw [uQ_same (ht.trans ho.now) ho.now]
   exact h
 ·obtain ⟨g, cap, hb, _⟩ := owned_some M.bk qo
  have hbo : p.back.ownBlock = some g := by rw [hb]; rfl
  have hpp : ({ p with now := x.1, back := .slice (some ⟨g, 0, none⟩) x.2.1.length cap, forth := p.forth } : Pg) = p := by rw [← ho.now, ← hb]
  refine Calls.mono (tkH X p f tv ns dg (uQ p (wlkN (min (max (cnt p) 1) x.2.1.length) x).1) x (wlkN (min (max (cnt p) 1) x.2.1.length) x) N 117 1 (d :: own p.forth) hm hv hp qd hd0 (Or.inl rfl) ?_ (fun w2 M2 => ?_) ww M) ?_
  ·intro hk
   rcases List.mem_cons.1 hk with e | e
   ·exact X.ly.bd e
   ·have := (M.fl b (mem_own.1 e)).1; omega
  ·have hgl := (M2.bk.lt g hbo).2
   have hw0 := M2.up.size
   have hg0 := M2.bl g hbo
   have hg1 := hg0.1
   have HS : HsAt w2 w2 r d g cap p x p.forth := ⟨by rw [hpp]; exact M2.rd, by rw [← hb]; exact M2.bk, M2.fo, by omega, by omega, fun e => by have := (M2.fl d e).1; omega, fun e => by have := (M2.fl r e).1; omega, M2.bf g hbo, hgl, Or.inl rfl, Upd.refl _ _⟩
   refine Calls.mono (mCommand_u r d g cap p x w2 HS qo ho.z ho.b (by have := ho.n; omega) hg.ts hg.n hg.bh) ?_
   have hle : min (max (cnt p) 1) x.2.1.length ≤ x.2.1.length := by omega
   have y1 := wlkN_ok x ho.z ho.b _ hle
   have y2 := wlkN_forth x ho.z ho.b ho.f _ hle
   have y3 := wlkN_len x _ hle
   generalize wlkN (min (max (cnt p) 1) x.2.1.length) x = y at *
   rintro e w' ⟨rfl, ov, S⟩
   obtain ⟨t1, t2, t3, t4⟩ := goT_t p y.1
   have hup : Upd (d :: own p.forth) w2 w' := by have := S.up; rw [t3] at this; exact this
   have hfr : p.forth.ownBlock = ov.ownBlock ∨ ∀ k, ov.ownBlock = some k → w2.heap.size ≤ k := by have := S.fr; rw [t3] at this; exact this
   refine ⟨rfl, ⟨{ goT p y.1 with now := y.1, back := .slice (some ⟨g, 0, none⟩) y.2.1.length cap, forth := ov }, ⟨_, _, rfl⟩, goT_good hg hm y.1 y1.1 _ _, t2.trans hm, t1, ⟨rfl, y1.1, y1.2, y2, by have := ho.n; omega⟩, ?_⟩, hup⟩
   have nb : ∀ z, (z = b ∨ z = r ∨ z = d ∨ z = m) → ¬ z = d → z ∉ d :: own p.forth := by
    intro z hz hzd hk
    rcases List.mem_cons.1 hk with e | e
    ·exact hzd e
    ·have := (M2.fl z (mem_own.1 e)).1; omega
   refine ⟨M2.bd.upd hup (nb b qi X.ly.bd), S.rd, M2.rg.upd hup (nb m qi X.ly.md), ownsRow_upd M2.ty hup ?_, S.ob, S.of, M2.tl, ?_, ?_, ?_, ?_, ?_, updMore M2.up hup ?_⟩
   ·intro k hk e
    rcases List.mem_cons.1 hk with e2 | e2
    ·have := (M2.tl k e).1; omega
    ·exact M2.tf k e (mem_own.1 e2)
   ·intro k hk
    have : g = k := by simpa [Value.ownBlock] using hk
    subst this
    exact hg0
   ·intro k hk
    have hk' : ov.ownBlock = some k := hk
    rcases hfr with e | e
    ·exact M2.fl k (by rw [e]; exact hk')
    ·exact X.fresh (by have := e k hk'; omega)
   ·intro k hk e
    have : g = k := by simpa [Value.ownBlock] using e
    subst this
    exact M2.tb g hk hbo
   ·intro k hk e
    have hk' : ov.ownBlock = some k := e
    rcases hfr with e2 | e2
    ·exact M2.tf k hk (by rw [e2]; exact hk')
    ·have := e2 k hk'; have := (M2.ty.lt k hk).2; omega
   ·intro k hk e
    have : g = k := by simpa [Value.ownBlock] using hk
    subst this
    exact S.og e
   ·intro z hz
    rcases List.mem_cons.1 hz with e | e
    ·left; simp [e]
    ·exact (M2.fl z (mem_own.1 e)).in
  ·rintro e w' ⟨rfl, h⟩
   exact ⟨by rw [if_neg h0], h⟩
