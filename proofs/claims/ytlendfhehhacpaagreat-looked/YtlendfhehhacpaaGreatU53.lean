/- A part. -/
import Derived.Test.YtlendfhehhacpaaGreatU52
import Derived.Test.YtlendfhehhacpaaGreatU31
import Derived.Test.YtlendfhehhacpaaGreatU50
set_option linter.unusedVariables false
set_option linter.unusedSimpArgs false
set_option maxRecDepth 100000
set_option maxHeartbeats 8000000
namespace Go.Proofs.YtlendfhehhacpaaGreat
open Go.RowKit Nib Tryz
theorem bTake_marking_moreB (b r d : Nat) (tv : Value) (dg : ByteArray) (p : Pg) (key : Int) (A B : World → Prop) (T : List Nat) (w : World) (hb : BdAt w b r d tv dg) (hA : A w) (fA : Firm A) (fB : Firm B) (hr : HasR A r d p) (hm : p.mode = 2 ∨ p.mode = 3) (hk : ¬ key = 27)
  (HC : GivesB 309 #[.agg #[.pointer (some ⟨r, 0, none⟩)], .int .u8 key] A B 0 T) :
  Calls Tryz.prog 46 #[.pointer (some ⟨b, 0, none⟩), .int .u8 key] w fun e w' => e = .returned (.int .i64 0) ∧ B w' ∧ Upd T w w' := by
 have HO : Hid (∀ ww, BdAt ww b r d tv dg → RdAt ww r d p → qC 64 #[.pointer (some ⟨b, 0, none⟩)] ww (.iface 81 (.agg #[.pointer (some ⟨r, 0, none⟩)]))) := fun ww h1 h2 => mOn_marking b r d tv dg p ww h1 h2 hm
 have H := hr w hA
 have hk' : (key == 27) = false := by simp [hk]
 have hmt := meth_marking_take ⟨r, 0, none⟩
 clear hm hk
 go_enter func46, ntmps46
 go_wp2_with fail
 refine Calls.mono (HO.out _ hb H) ?_
 rintro e w1 ⟨rfl, h1⟩
 exact qt18
theorem press_mark_moreB (b r d : Nat) (p : Pg) (tv : Value) (dg : ByteArray) (key : Int) (A B : World → Prop) (T : List Nat) (w : World) (HB : BdAt w b r d tv dg) (hA : A w) (hr : HasR A r d p) (hbT : b ∉ T) (hm : p.mode = 2 ∨ p.mode = 3) (sB : ∀ u v, B u → Upd [b] u v → B v) (fB : Firm B) (hbr : b ≠ r) (hbd : b ≠ d) (HT : TakesB b r d tv dg key A B 0 T) :
  Calls Tryz.prog 38 #[.pointer (some ⟨b, 0, none⟩), .int .u8 key] w fun e w' => e = .returned (.int .i64 0) ∧ B w' ∧ BdAt w' b r d tv dg ∧ Upd T w w' := by
 have HK : Hid (∀ ww, BdAt ww b r d tv dg → qC 47 #[.pointer (some ⟨b, 1, none⟩), .int .u8 key, .int .i64 p.mode] ww (.tuple #[])) := fun ww h1 => mKeep_not b r d tv dg key p.mode ww h1 hm
 have HR := hr w hA
 have b0 := HB.c0
 have r0 := HR.bg.c0
 have d3 := HR.dk.c3
 have bl := HB.lt
 have rl := HR.bg.lt
 have dl := HR.dk.lt
 clear hm
 generalize p.mode = M at *
 go_enter func38, ntmps38
 go_wp2_with fail
 refine Calls.mono (HT.out _ HB hA) ?_
 rintro e w1 ⟨rfl, R1, u1⟩
 have B1 := HB.upd u1 hbT
 go_wp2_with fail
 refine Calls.mono (HK.out _ B1) ?_
 rintro e w2 ⟨rfl, h2⟩
 have B2 := B1.below h2
 go_wp2
 go_ret
 exact ⟨rfl, fB _ _ R1 h2, B2, u1.below h2⟩
theorem lTakeM (HA : AnyOk) (r d m : Nat) (p : Pg) (f : Int → Value) (t : ByteArray) (key : Int) (hg : GoodL t m p) (mr : m ≠ r) (md : m ≠ d) (rd : r ≠ d) (hm : p.mode = 2 ∨ p.mode = 3) (hk : LKey key) :
  ∃ O, (O = 0 ∨ O = 1 ∨ O = 4) ∧ GivesB 309 #[.agg #[.pointer (some ⟨r, 0, none⟩)], .int .u8 key] (LA r d m p f) (LX r d m t) O [r, d, m] := by
 have hv : p.verb = 0 := by
  rcases hg.vb with h | ⟨_, h⟩
  ·exact h
  ·omega
 by_cases hp : p.part = 0
 ·cases hd : isD p.n key with
  | true =>
   exact ⟨0, Or.inl rfl, GivesB.ofG (p2 := { p with n := nextN p.n key }) (fun ww hh => mMTake_digit r d p key ww hh hp hv hg.n hd) ⟨hg.tx, hg.now, hg.ts, hg.pl, hg.st, hg.an, hg.mo, nextN_le _ _, hg.bh, hg.vb, hg.pt, hg.fd, hg.rg⟩ mr md⟩
  | false =>
   by_cases hy : key = 121
   ·subst hy
    have hpl := hg.pl
    have han := hg.an
    rcases hm with hm2 | hm3
    ·obtain ⟨O, hO, HD⟩ := lDo r d m p f t (min p.anchor p.pl) (min (max p.anchor p.pl + 1) t.size) false hg mr md qo qo
     have HM : ∀ ww, LA r d m p f ww → qC 313 #[.agg #[.pointer (some ⟨r, 0, none⟩)]] ww (.agg #[.int .i64 ((min p.anchor p.pl : Nat) : Int), .int .i64 ((min (max p.anchor p.pl + 1) t.size : Nat) : Int), .bool false]) := by
      intro ww hh
      have := mMarked_bytes r d p ww hh.1 (by rw [hg.tx]; exact hg.ts) (by rw [hg.tx]; exact hpl) (by rw [hg.tx]; exact han) hm2
      rw [hg.tx] at this
      exact this
     exact ⟨O, Or.inr hO, GivesB.x (a := p.fnd) (c := p.findC) (fun ww hh => mMTake_cmdB r d p 121 O (LA r d m p f) _ [r, d, m] ww hh LA.firm LB.firm (fun _ h => h.1) hp hv hd (fun w2 h2 => Calls.mono (mMCommand_y r d p O _ _ false (LA r d m p f) _ [d, m] w2 h2 LA.firm LB.firm (fun _ h => h.1) (by intro k hk; simp at hk; rcases hk with hk | hk; (rw [hk]; exact h2.1.dk.lt); (rw [hk]; exact h2.2.lt)) HM HD) (fun _ _ ⟨x, y, z⟩ => ⟨x, y, z.mono qi⟩)))⟩
    ·have h1 := fin_le hpl
     have h2 := fin_le han
     have h3 := fin_ge t p.pl
     have h4 := beg_le t p.pl
     obtain ⟨O, hO, HD⟩ := lDo r d m p f t (min (beg t p.anchor) (beg t p.pl)) (max (fin t p.anchor) (fin t p.pl)) true hg mr md qo qo
     have HM : ∀ ww, LA r d m p f ww → qC 313 #[.agg #[.pointer (some ⟨r, 0, none⟩)]] ww (.agg #[.int .i64 ((min (beg t p.anchor) (beg t p.pl) : Nat) : Int), .int .i64 ((max (fin t p.anchor) (fin t p.pl) : Nat) : Int), .bool true]) := by
      intro ww hh
      have := mMarked_lines r d p ww hh.1 (by rw [hg.tx]; exact hg.ts) (by rw [hg.tx]; exact hpl) (by rw [hg.tx]; exact han) hm3
      rw [hg.tx] at this
      rw [show ((min (beg t p.anchor) (beg t p.pl) : Nat) : Int) = min (beg t p.anchor : Int) (beg t p.pl) by omega, show ((max (fin t p.anchor) (fin t p.pl) : Nat) : Int) = max (fin t p.anchor : Int) (fin t p.pl) by omega]
      exact this
     exact ⟨O, Or.inr hO, GivesB.x (a := p.fnd) (c := p.findC) (fun ww hh => mMTake_cmdB r d p 121 O (LA r d m p f) _ [r, d, m] ww hh LA.firm LB.firm (fun _ h => h.1) hp hv hd (fun w2 h2 => Calls.mono (mMCommand_y r d p O _ _ true (LA r d m p f) _ [d, m] w2 h2 LA.firm LB.firm (fun _ h => h.1) (by intro k hk; simp at hk; rcases hk with hk | hk; (rw [hk]; exact h2.1.dk.lt); (rw [hk]; exact h2.2.lt)) HM HD) (fun _ _ ⟨x, y, z⟩ => ⟨x, y, z.mono qi⟩)))⟩
   ·by_cases hvv : key = 118 ∨ key = 86
    ·refine ⟨1, Or.inr (Or.inl rfl), GivesB.ofG (fun ww hh => mMTake_cmd r d p _ key 1 ww hh hp hv hd (fun w2 h2 => mMCommand_turn r d p key w2 h2 hvv)) ?_ mr md⟩
     by_cases hpm : p.mode = (if key = 86 then (3 : Int) else 2)
     ·rw [if_pos hpm]; exact ⟨hg.tx, hg.now, hg.ts, hg.pl, hg.st, Nat.zero_le _, Or.inl rfl, hg.n, hg.bh, Or.inl hv, hg.pt, hg.fd, hg.rg⟩
     ·rw [if_neg hpm]
      refine ⟨hg.tx, hg.now, hg.ts, hg.pl, hg.st, hg.an, ?_, hg.n, hg.bh, Or.inl hv, hg.pt, hg.fd, hg.rg⟩
      show (if key = 86 then (3 : Int) else 2) = 0 ∨ _ ∨ _
      split
      ·exact Or.inr (Or.inr rfl)
      ·exact Or.inr (Or.inl rfl)
    ·have hw : (isPlainWay key = true ∧ ¬ key = 103) ∨ isFind key = true ∨ key = 103 ∨ key = 59 ∨ key = 44 := by
      exact qt33
     have hkc : ∀ c, c ∈ kMrk → ¬ key = c := by
      intro c hc e
      subst e
      unfold isPlainWay isFind at hw
      simp only [Bool.or_eq_true, beq_iff_eq] at hw
      simp only [kMrk, List.mem_cons, List.not_mem_nil, or_false] at hc
      omega
     obtain ⟨O, p2, hO, hg2, h⟩ := lWay0 HA r d m p t key hg hv hw
     exact ⟨O, hO, GivesB.ofG (fun ww hh => mMTake_cmd r d p p2 key O ww hh hp hv hd (fun w2 h2 => mMCommand_way r d p p2 key O w2 h2 hkc h)) hg2 mr md⟩
 ·have hp' : isFind p.part = true ∨ p.part = 103 := by
   rcases hg.pt with h | h
   ·exact absurd h hp
   ·exact h
  obtain ⟨O, p2, hO, hg2, h⟩ := lCompl0 HA r d m p t key hg hv hp'
  exact ⟨O, Or.inr hO, GivesB.ofG (fun ww hh => mMTake_part r d p p2 key O ww hh hp h) hg2 mr md⟩
def LkS (w0 : World) (b r d m : Nat) (t : ByteArray) (N : Nat) (ww : World) : Prop :=
 ∃ p f tv n xs dg, BdAt ww b r d tv dg ∧ ww.ownsRow 0 5 1 tv n xs ∧ n ≤ N ∧ RdAt ww r d p ∧ RgAt ww m f ∧ GoodL t m p ∧ (∀ k, tv.ownBlock = some k → w0.heap.size ≤ k) ∧ Upd [b, r, d, m] w0 ww
theorem GoodL.none {t : ByteArray} {m : Nat} {p : Pg} (h : GoodL t m p) : GoodL t m p.none' :=
 ⟨h.tx, h.now, h.ts, h.pl, h.st, h.an, h.mo, Nat.zero_le _, Nat.zero_le _, Or.inl rfl, Or.inl rfl, h.fd, h.rg⟩
theorem GoodL.esc {t : ByteArray} {m : Nat} {p : Pg} (h : GoodL t m p) : GoodL t m { p.none' with mode := 0, anchor := 0 } :=
 ⟨h.tx, h.now, h.ts, h.pl, h.st, Nat.zero_le _, Or.inl rfl, Nat.zero_le _, Nat.zero_le _, Or.inl rfl, Or.inl rfl, h.fd, h.rg⟩
theorem lPress (HA : AnyOk) (w0 ww : World) (b r d m N : Nat) (t : ByteArray) (key : Int) (L : Lay b r d m) (lb : b < w0.heap.size) (lr : r < w0.heap.size) (ld : d < w0.heap.size) (lm : m < w0.heap.size) (hN : N ≤ 17592186044416) (hk : (LKey key ∧ ¬ key = 27) ∨ key = 27) (h : LkS w0 b r d m t N ww) :
  Calls Tryz.prog 38 #[.pointer (some ⟨b, 0, none⟩), .int .u8 key] ww fun e w' => ∃ O : Int, e = .returned (.int .i64 O) ∧ LkS w0 b r d m t (N + 1) w' := by
 obtain ⟨p, f, tv, n, xs, dg, HB, ho, hn, HR, HG, hg, hfr, hup⟩ := h
 have rd := HR.ne
 have hz := hup.size
 have ne : ∀ x, x < w0.heap.size → tv.ownBlock ≠ some x := fun x hx e => by have := hfr x e; omega
 have hbT : b ∉ [r, d, m] := by simp [L.br, L.bd, L.mb.symm]
 have hbT' : b ∉ r :: [r, d, m] := by simp [L.br, L.bd, L.mb.symm]
 have htT : ∀ k, k ∈ [r, d, m] → tv.ownBlock ≠ some k := by intro k hk; simp at hk; rcases hk with hk | hk | hk <;> (rw [hk]; apply ne; assumption)
 have htT' : ∀ k, k ∈ r :: [r, d, m] → tv.ownBlock ≠ some k := by intro k hk; simp at hk; rcases hk with hk | hk | hk <;> (rw [hk]; apply ne; assumption)
 have sB : ∀ u v, LX r d m t u → Upd (b :: own tv) u v → LX r d m t v := by
  rintro u v ⟨p2, f2, h1, h2, h3⟩ hu
  refine ⟨p2, f2, h1.upd hu ?_ ?_, h2.upd hu ?_, h3⟩
  ·simp only [List.mem_cons, mem_own]; rintro (e | e)
   ·exact L.br e.symm
   ·exact ne r lr e
  ·simp only [List.mem_cons, mem_own]; rintro (e | e)
   ·exact L.bd e.symm
   ·exact ne d ld e
  ·simp only [List.mem_cons, mem_own]; rintro (e | e)
   ·exact L.mb e
   ·exact ne m lm e
 have sB1 : ∀ u v, LX r d m t u → Upd [b] u v → LX r d m t v := fun u v h hu => sB u v h (hu.mono qi)
 have hBq : ∀ ww, LX r d m t ww → ∃ p2, RdAt ww r d p2 ∧ ¬ p2.mode = 1 ∧ p2.now = p2.t := fun ww ⟨p2, f2, h1, _, h3⟩ => ⟨p2, h1, by have := h3.mo; omega, by rw [h3.now, h3.tx]⟩
 have HF : Hid (∀ ww, LX r d m t ww → Calls Tryz.prog 65 #[.pointer (some ⟨r, 1, none⟩)] ww fun e w' => e = .returned (.tuple #[]) ∧ LX r d m t w' ∧ Upd [r] ww w') :=
  fun ww ⟨p2, f2, h1, h2, h3⟩ => Calls.mono (mForget r d p2 ww h1) (fun _ _ ⟨a, b', c⟩ => ⟨a, ⟨_, f2, b', h2.upd c (by simp [L.mr]), h3.none⟩, c⟩)
 have fin : ∀ (w' : World) (S : List Nat), LX r d m t w' → BdAt w' b r d (.slice none 0 0) dg → Upd S ww w' → (∀ x, x ∈ S → x ∈ [b, r, d, m] ∨ tv.ownBlock = some x) → LkS w0 b r d m t (N + 1) w' := by
  rintro w' S ⟨p2, f2, h1, h2, h3⟩ hb hu hS
  refine ⟨p2, f2, _, 0, [], dg, hb, World.ownsRow_nil _ _ _ _, Nat.zero_le _, h1, h2, h3, by simp [Value.ownBlock], updMore hup hu ?_⟩
  intro x hx
  rcases hS x hx with h | h
  ·exact Or.inl h
  ·exact Or.inr (hfr x h)
 rcases hg.mo with hm | hm
 ·
  have dn : ∀ O : Int, ¬ O = 0 → ¬ O = 2 → TakesB b r d tv dg key (LA r d m p f) (LX r d m t) O (r :: [r, d, m]) → Calls Tryz.prog 38 #[.pointer (some ⟨b, 0, none⟩), .int .u8 key] ww fun e w' => ∃ O : Int, e = .returned (.int .i64 O) ∧ LkS w0 b r d m t (N + 1) w' := by
   intro O h0 h2 HT
   refine Calls.mono (press_normal_doneB b r d p tv n xs dg key O (LA r d m p f) (LX r d m t) (r :: [r, d, m]) ww HB ho ⟨HR, HG⟩ (fun _ h => h.1) hbT' (ne b lb) htT' qo hm sB LX.firm hBq L.br L.bd h0 h2 HT) ?_
   rintro e w' ⟨rfl, h1, h2, h3⟩
   refine ⟨O, rfl, fin w' _ h1 h2 h3 ?_⟩
   intro x hx
   simp only [List.mem_cons, List.mem_append, mem_own, List.not_mem_nil, or_false] at hx ⊢
   rcases hx with h | (h | h | h | h) | h
   ·simp [h]
   ·simp [h]
   ·simp [h]
   ·simp [h]
   ·simp [h]
   ·exact Or.inr h
  rcases hk with ⟨hk, hk27⟩ | hk
  ·obtain ⟨O, hO, HT⟩ := lTakeN HA r d m p f t key hg L.mr L.md rd hm hk
   rcases hO with hO | hO
   ·subst hO
    refine Calls.mono (press_normal_moreB b r d p tv n xs dg key (LA r d m p f) (LX r d m t) [r, d, m] ww HB ho ⟨HR, HG⟩ (fun _ h => h.1) hbT (ne b lb) htT qo hm sB (fun w2 h1 h2 => bTake_normal_moreB b r d tv dg p key _ _ [r, d, m] w2 h1 h2 LA.firm LX.firm (fun _ h => h.1) hm hk27 HT)) ?_
    rintro e w' ⟨rfl, ⟨p2, f2, h1, h2, h3⟩, tv', h4, h5, h6, h7⟩
    refine ⟨0, rfl, p2, f2, tv', n + 1, _, dg, h4, h5, by omega, h1, h2, h3, ?_, updMore hup h7 ?_⟩
    ·intro k hk
     rcases h6 with h | ⟨g, h8, h9⟩
     ·rw [h] at hk; exact hfr k hk
     ·rw [h8] at hk; injection hk with hk; omega
    ·intro x hx
     simp only [List.mem_cons, List.mem_append, mem_own, List.not_mem_nil, or_false] at hx ⊢
     rcases hx with h | (h | h | h) | h
     ·simp [h]
     ·simp [h]
     ·simp [h]
     ·simp [h]
     ·exact Or.inr (hfr x h)
   ·exact dn O qo qo (fun w2 h1 h2 => bTake_normal_doneB b r d tv dg p key O (LX r d m t) _ _ [r, d, m] w2 h1 h2 LA.firm LX.firm (fun _ h => h.1) hm hk27 hbT qo qo LX.firm (fun _ ⟨p2, _, h, _⟩ => ⟨p2, h⟩) HF HT)
  ·subst hk
   refine dn 1 qd qd (fun w2 h1 h2 => Calls.mono (bTake_normal_esc b r d tv dg p w2 h1 h2.1 hm) ?_)
   rintro e w' ⟨rfl, k1, k2⟩
   exact ⟨rfl, ⟨_, f, k1, h2.2.upd k2 (by simp [L.mr, L.md]), hg.esc⟩, k2.mono qi⟩
 ·
  have dn : ∀ O : Int, ¬ O = 0 → ¬ O = 2 → TakesB b r d tv dg key (LA r d m p f) (LX r d m t) O (r :: [r, d, m]) → Calls Tryz.prog 38 #[.pointer (some ⟨b, 0, none⟩), .int .u8 key] ww fun e w' => ∃ O : Int, e = .returned (.int .i64 O) ∧ LkS w0 b r d m t (N + 1) w' := by
   intro O h0 h2 HT
   refine Calls.mono (press_mark_doneB b r d p tv dg key O (LA r d m p f) (LX r d m t) (r :: [r, d, m]) ww HB ⟨HR, HG⟩ (fun _ h => h.1) hbT' hm sB1 LX.firm hBq L.br L.bd h0 h2 HT) ?_
   rintro e w' ⟨rfl, h1, h2, h3⟩
   refine ⟨O, rfl, fin w' _ h1 h2 h3 ?_⟩
   intro x hx
   simp only [List.mem_cons, List.not_mem_nil, or_false] at hx ⊢
   left
   rcases hx with h | h | h | h | h <;> simp [h]
  rcases hk with ⟨hk, hk27⟩ | hk
  ·obtain ⟨O, hO, HT⟩ := lTakeM HA r d m p f t key hg L.mr L.md rd hm hk
   rcases hO with hO | hO
   ·subst hO
    refine Calls.mono (press_mark_moreB b r d p tv dg key (LA r d m p f) (LX r d m t) [r, d, m] ww HB ⟨HR, HG⟩ (fun _ h => h.1) hbT hm sB1 LX.firm L.br L.bd (fun w2 h1 h2 => bTake_marking_moreB b r d tv dg p key _ _ [r, d, m] w2 h1 h2 LA.firm LX.firm (fun _ h => h.1) hm hk27 HT)) ?_
    rintro e w' ⟨rfl, ⟨p2, f2, h1, h2, h3⟩, h4, h7⟩
    exact ⟨0, rfl, p2, f2, tv, n, xs, dg, h4, ownsRow_upd ho h7 htT, by omega, h1, h2, h3, hfr, updMore hup h7 (by intro x hx; left; simp at hx ⊢; rcases hx with h | h | h <;> simp [h])⟩
   ·exact dn O qo qo (fun w2 h1 h2 => bTake_marking_doneB b r d tv dg p key O (LX r d m t) _ _ [r, d, m] w2 h1 h2 LA.firm LX.firm (fun _ h => h.1) hm hk27 hbT qo qo LX.firm (fun _ ⟨p2, _, h, _⟩ => ⟨p2, h⟩) HF HT)
  ·subst hk
   refine dn 1 qd qd (fun w2 h1 h2 => Calls.mono (bTake_marking_esc b r d tv dg p w2 h1 h2.1 hm) ?_)
   rintro e w' ⟨rfl, k1, k2⟩
   exact ⟨rfl, ⟨_, f, k1, h2.2.upd k2 (by simp [L.mr, L.md]), hg.esc⟩, k2.mono qi⟩
def kSet : ByteArray := ⟨#[104, 106, 107, 108, 48, 94, 36, 71, 103, 119, 87, 98, 66, 101, 69, 102, 116, 70, 84, 59, 44, 123, 125, 37, 118, 86, 121, 49, 50, 51, 52, 53, 54, 55, 56, 57, 27]⟩
theorem set_ok0 : ∀ k : Nat, k < 256 → hasB kSet (k : Int) = true → ((((isPlainWay (k : Int) = true ∧ ¬ (k : Int) = 103) ∨ isFind (k : Int) = true ∨ (k : Int) = 103 ∨ (k : Int) = 59 ∨ (k : Int) = 44 ∨ (k : Int) = 118 ∨ (k : Int) = 86 ∨ (k : Int) = 121 ∨ (49 ≤ (k : Int) ∧ (k : Int) ≤ 57)) ∧ ¬ (k : Int) = 27) ∨ (k : Int) = 27) := by decide +kernel
theorem set_ok (k : Nat) (h : k < 256) (hb : hasB kSet (k : Int) = true) : (LKey (k : Int) ∧ ¬ (k : Int) = 27) ∨ (k : Int) = 27 := set_ok0 k h hb
theorem nTypeX (q b : Nat) (s : ByteArray) (w : World) (Q : World → Prop) (hq : w.cell? ⟨q, 0, none⟩ = some (.pointer (some ⟨b, 0, none⟩)))
  (HT : Hid (∀ ww, ww = w → Calls Tryz.prog 30 #[.pointer (some ⟨b, 0, none⟩), .string s] ww fun e w' => ∃ n : Nat, e = .returned (.int .i64 n) ∧ Q w')) :
  Calls Tryz.prog 17 #[.pointer (some ⟨q, 0, none⟩), .string s] w fun e w' => ∃ n : Nat, e = .returned (.int .i64 n) ∧ Q w' := by
 go_enter func17, ntmps17
 go_wp2_with fail
 refine Calls.mono (HT.out _ rfl) ?_
 rintro e w1 ⟨n, rfl, h1⟩
 have HQ : Hid (Q w1) := h1
 clear h1
 go_wp2
 go_ret
 exact ⟨n, rfl, HQ.out⟩
theorem lType (HA : AnyOk) (w0 ww : World) (q b r d m N : Nat) (t s : ByteArray) (c : UInt8) (L : Lay b r d m) (hq : ww.cell? ⟨q, 0, none⟩ = some (.pointer (some ⟨b, 0, none⟩))) (lb : b < w0.heap.size) (lr : r < w0.heap.size) (ld : d < w0.heap.size) (lm : m < w0.heap.size) (hN : N ≤ 1000000) (hs : s = ⟨#[c]⟩) (hk : hasB kSet (c.toNat : Int) = true) (h : LkS w0 b r d m t N ww) :
  Calls Tryz.prog 17 #[.pointer (some ⟨q, 0, none⟩), .string s] ww fun e w' => ∃ n : Nat, e = .returned (.int .i64 n) ∧ LkS w0 b r d m t (N + 1) w' := by
 subst hs
 have hc := set_ok c.toNat c.toNat_lt hk
 have hq' := hq
 have HT : ∀ n : Nat, Hid (∀ v, v = ww → Calls Tryz.prog 30 #[.pointer (some ⟨b, 0, none⟩), .string ⟨#[c]⟩] v fun e w' => ∃ n : Nat, e = .returned (.int .i64 n) ∧ LkS w0 b r d m t (N + 1) w') := by
  intro _ v hv
  subst hv
  refine Calls.mono (bType_inv b ⟨#[c]⟩ (fun k ww' => LkS w0 b r d m t (N + k) ww') v h (show 1 ≤ 17592186044416 by decide) ?_) ?_
  ·intro k hk w1 hI
   have hk0 : k = 0 := by
    have : (⟨#[c]⟩ : ByteArray).size = 1 := rfl
    omega
   subst hk0
   exact lPress HA w0 w1 b r d m (N + 0) t _ L lb lr ld lm qo hc hI
  ·rintro e w' ⟨n, rfl, _, h2⟩
   exact ⟨n, rfl, h2⟩
 exact nTypeX q b _ ww _ hq (HT 0)
theorem LkS.state {w0 ww : World} {q b r d m N : Nat} {t : ByteArray} (h : LkS w0 b r d m t N ww) (hq : ww.cell? ⟨q, 0, none⟩ = some (.pointer (some ⟨b, 0, none⟩))) :
  Calls Tryz.prog 18 #[.pointer (some ⟨q, 0, none⟩)] ww fun e w' => ∃ a c o : Int, ∃ l, e = .returned (.agg #[.string t, .int .i64 a, .int .i64 c, .int .i64 o, .bool l]) ∧ Below ww.heap.size ww w' := by
 obtain ⟨p, f, tv, n, xs, dg, HB, _, _, HR, _, hg, _⟩ := h
 refine Calls.mono (nState q b r d tv dg p ww hq HB HR) ?_
 rintro e w' ⟨rfl, h⟩
 rw [hg.tx]
 exact ⟨_, _, _, _, rfl, h⟩
theorem New7.lks {w W : World} {q b r d m : Nat} {t : ByteArray} (N : New7 w W q b r d m t) (ht : t.size ≤ 1000) : LkS W b r d m t 0 W :=
 ⟨_, _, _, 0, [], _, N.bd, World.ownsRow_nil _ _ _ _, Nat.le_refl _, N.rd, N.rg, ⟨rfl, rfl, ht, Nat.zero_le _, zero_settled _, Nat.zero_le _, Or.inl rfl, Nat.zero_le _, Nat.zero_le _, Or.inl rfl, Or.inl rfl, Or.inl rfl, rfl⟩, by simp [Value.ownBlock], Upd.refl _ _⟩
theorem LkS.below {w0 ww ww' : World} {b r d m N : Nat} {t : ByteArray} (h : LkS w0 b r d m t N ww) (hb : Below ww.heap.size ww ww') : LkS w0 b r d m t N ww' := by
 obtain ⟨p, f, tv, n, xs, dg, h1, h2, h3, h4, h5, h6, h7, h8⟩ := h
 exact ⟨p, f, tv, n, xs, dg, h1.below hb, ownsRow_upd h2 (Upd.of_below (S := []) hb) qi, h3, h4.below hb, h5.below hb, h6, h7, Upd.below h8 hb⟩
theorem LkS.mono {w0 ww : World} {b r d m N M : Nat} {t : ByteArray} (h : LkS w0 b r d m t N ww) (hn : N ≤ M) : LkS w0 b r d m t M ww := by
 obtain ⟨p, f, tv, n, xs, dg, h1, h2, h3, h4⟩ := h
 exact ⟨p, f, tv, n, xs, dg, h1, h2, by omega, h4⟩
theorem LkS.up {w0 ww : World} {b r d m N : Nat} {t : ByteArray} (h : LkS w0 b r d m t N ww) : Upd [b, r, d, m] w0 ww := by
 obtain ⟨_, _, _, _, _, _, _, _, _, _, _, _, _, hup⟩ := h
 exact hup
theorem one_byte (s : ByteArray) (k : Nat) (h : k < s.size) : s.extract k (k + 1) = ⟨#[s[k]'h]⟩ := by
 apply ByteArray.ext
 rw [ByteArray.data_extract]
 apply Array.ext
 ·simp; have : s.data.size = s.size := rfl; omega
 ·intro i h1 h2
  have hi : i = 0 := by simp at h2; omega
  subst hi
  simp [ByteArray.getElem_eq_getElem_data]
theorem kLooked (HA : AnyOk) (text keys : ByteArray) (w : World) :
  qC 8 #[.string text, .string keys] w (.bool true) := by
 have HK : qH 14 #[] (.bool true) := fun ww => kKnown ww
 have HO : Hid (∀ ww, Calls Tryz.prog 15 #[.string text] ww fun e w' => ∃ q b r d m : Nat, e = .returned (.pointer (some ⟨q, 0, none⟩)) ∧ New7 ww w' q b r d m (cut3 text) ∧ Below ww.heap.size ww w') := fun ww => kOpened text ww
 have HU1 : qH 16 #[.string text, .int .i64 300] (.string (cut3 text)) := fun ww => kUpTo text ww
 have HU2 : qH 16 #[.string keys, .int .i64 300] (.string (cut3 keys)) := fun ww => kUpTo keys ww
 have HI : Hid (∀ c ww, qC 21 #[.string kSet, .int .u8 c] ww (.bool (hasB kSet c))) := fun c ww => kIn kSet c ww qd
 have ht := cut3_size text
 have hk := cut3_size keys
 generalize cut3 text = t at *
 generalize cut3 keys = ks at *
 go_enter func8, ntmps8
 go_wp2_with fail
 refine Calls.mono (HK.out _) ?_
 rintro e w1 ⟨rfl, g1⟩
 have z1 := g1.size
 go_wp2_with fail
 refine Calls.mono (HO.out _) ?_
 rintro e w2 ⟨q, b, r, d, m, rfl, N2, g2⟩
 have z2 := g2.size
 go_wp2_with fail
 refine Calls.mono (HU2.out _) ?_
 rintro e w3 ⟨rfl, g3⟩
 have z3 := g3.size
 have N3 := N2.below g3
 have B3 : Below w.heap.size w w3 := by
  repeat exact qB
 have S3 := N3.lks qo
 have lb := N3.bd.lt
 have lr := N3.rd.bg.lt
 have ld := N3.rd.dk.lt
 have lm := N3.rg.lt
 clear HK HO HU2 g1 g2 g3 N2
 go_wp2
 go_loopw [7] (fun a wr => ∃ k : Nat, k ≤ ks.size ∧ a = .int .i64 k ∧ LkS w3 b r d m t k wr) (fun a _ => ks.size - (intOf a).toNat)
 case atStart => exact ⟨0, Nat.zero_le _, rfl, S3⟩
 case round =>
  clear S3
  obtain ⟨k, hkk, rfl, S⟩ := hrel
  have cq := S.up.was N3.cq (by simp [N3.qb, N3.qr, N3.qd, N3.qm])
  have zr := S.up.size
  by_cases hlt : k < ks.size
  ·have i1 : ((k : Nat) : Int) < ((ks.size : Nat) : Int) := by omega
   have i2 : ((k : Nat) : Int) + 1 ≤ ((ks.size : Nat) : Int) := by omega
   have e1 := one_byte ks k hlt
   have HIc := fun ww => HI.out (((ks[k]'hlt).toNat : Nat) : Int) ww
   cases hB : hasB kSet (((ks[k]'hlt).toNat : Nat) : Int) with
   | true =>
    have HIt : qH 21 #[.string kSet, .int .u8 (((ks[k]'hlt).toNat : Nat) : Int)] (.bool true) := by
     intro ww
     have := HIc ww
     rw [hB] at this
     exact this
    clear HIc
    go_wp2_with fail
    refine Calls.mono (HIt.out _) ?_
    rintro e w4 ⟨rfl, g4⟩
    have S4 := S.below g4
    have c4 := memLater g4 cq
    go_wp2_with fail
    refine Calls.mono (lType HA w3 w4 q b r d m k t ⟨#[ks[k]'hlt]⟩ (ks[k]'hlt) N3.ly c4 lb lr ld lm qo rfl hB S4) ?_
    rintro e w5 ⟨n, rfl, S5⟩
    clear S S4 cq c4
    go_wp2
    go_round
    case rel => exact ⟨k + 1, by omega, by go_num, S5⟩
    case measure => simp [intOf] <;> omega
   | false =>
    have HIt : qH 21 #[.string kSet, .int .u8 (((ks[k]'hlt).toNat : Nat) : Int)] (.bool false) := by
     intro ww
     have := HIc ww
     rw [hB] at this
     exact this
    clear HIc
    go_wp2_with fail
    refine Calls.mono (HIt.out _) ?_
    rintro e w4 ⟨rfl, g4⟩
    have S4 := (S.below g4).mono (Nat.le_succ k)
    clear S cq
    go_wp2
    go_round
    case rel => exact ⟨k + 1, by omega, by go_num, S4⟩
    case measure => simp [intOf] <;> omega
  ·have hns : ¬ ((k : Nat) : Int) < ((ks.size : Nat) : Int) := by omega
   have Br : Below w.heap.size w wr := B3.trans (below_of_upd S.up qo (by
    intro x hx
    simp at hx
    have := N3.lb; have := N3.lr; have := N3.ld; have := N3.lm
    rcases hx with hx | hx | hx | hx <;> omega))
   go_wp2_with fail
   refine Calls.mono (S.state cq) ?_
   rintro e w5 ⟨a5, c5, o5, l5, rfl, g5⟩
   have z5 := g5.size
   clear S cq
   have hfd : ∀ ww : World, (Instr.field 32 (.agg #[.string t, .int .i64 a5, .int .i64 c5, .int .i64 o5, .bool l5]) 0).run Tryz.prog ww = .ok (.string t) ww := fun _ => by kernel_rfl
   go_wp2_with fail
   refine Calls.mono (HU1.out _) ?_
   rintro e w6 ⟨rfl, g6⟩
   have B6 : Below w.heap.size w w6 := by
    repeat exact qB
   go_wp2
   go_ret
   exact ⟨rfl, B6⟩
