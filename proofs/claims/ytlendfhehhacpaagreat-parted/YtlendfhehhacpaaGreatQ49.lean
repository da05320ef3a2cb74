/- A part. -/
import Derived.Test.YtlendfhehhacpaaGreatQ47
import Derived.Test.YtlendfhehhacpaaGreatQ26
set_option linter.unusedVariables false
set_option linter.unusedSimpArgs false
set_option maxRecDepth 100000
set_option maxHeartbeats 8000000
namespace Go.Proofs.YtlendfhehhacpaaGreat
open Go.RowKit Nib Tryz
theorem sBegin (p : Pg) (f : Int → Value) (key : Int) (hg : GoodP p) (hf : GoodF f) (hv0 : p.verb = 0) (hk : key = 105 ∨ key = 97 ∨ key = 73 ∨ key = 65) :
  ∃ O p2, Did p f 152 (fun r => #[.agg #[.pointer (some ⟨r, 0, none⟩)], .int .u8 key]) O p2 f True := by
 have e1 := fin_le hg.pl
 have e2 := beg_le p.t p.pl
 have e3 := fin_ge p.t p.pl
 have mk : ∀ q, q ≤ p.t.size → (∀ r d (a : Ptr) ww, RdAt ww r d (p.w a) → Calls Tryz.prog 152 #[.agg #[.pointer (some ⟨r, 0, none⟩)], .int .u8 key] ww fun e w' => e = .returned (.int .i64 1) ∧ RdAt w' r d (Pg.w { p with mode := 1, anchor := 0, pl := q } a) ∧ Upd [d] ww w') → ∃ O p2, Did p f 152 (fun r => #[.agg #[.pointer (some ⟨r, 0, none⟩)], .int .u8 key]) O p2 f True := by
  intro q hq h
  exact ⟨1, { p with mode := 1, anchor := 0, pl := q }, Or.inl rfl, ⟨hg.ts, hq, fun h => absurd rfl h, fun _ => Nat.zero_le _, Or.inr (Or.inl rfl), hg.n, hg.bh, hg.fd⟩, hf, ⟨rfl, rfl, rfl⟩, (fun h => absurd h qd), (fun _ => ⟨fun _ => trivial, fun _ => rfl⟩), ⟨fun h => absurd h qd, fun h => by unfold isV5 at h; omega, fun h => absurd hv0 h⟩, fun r d m a mr md rd ha => GivesB.ofD (h r d a) mr md⟩
 rcases hk with h | h | h | h
 ·subst h; exact mk _ hg.pl (fun r d a ww hh => mBegin_i r d (p.w a) ww hh hg.ts hg.pl)
 ·subst h; exact mk (min (p.pl + 1) (fin p.t p.pl)) qo (fun r d a ww hh => mBegin_a r d (p.w a) ww hh hg.ts hg.pl)
 ·subst h
  have h3 : ind p.t p.pl ≤ fin p.t p.pl := up_le qo
  exact mk (ind p.t p.pl) qo (fun r d a ww hh => mBegin_I r d (p.w a) ww hh hg.ts hg.pl)
 ·subst h; exact mk (fin p.t p.pl) qo (fun r d a ww hh => mBegin_A r d (p.w a) ww hh hg.ts hg.pl)
theorem olP_w (p : Pg) (key : Int) (a : Ptr) : olP (p.w a) key = (olP p key).w a := by
 show (if (put p.t (olT p key) (olK p key)).size ≤ 1000 then _ else _) = Pg.w (if (put p.t (olT p key) (olK p key)).size ≤ 1000 then _ else _) a
 split <;> rfl
theorem sOpen (p : Pg) (f : Int → Value) (key : Int) (hg : GoodP p) (hf : GoodF f) (hv0 : p.verb = 0) (hk : key = 111 ∨ key = 79) :
  ∃ O p2, Did p f 153 (fun r => #[.agg #[.pointer (some ⟨r, 0, none⟩)], .int .u8 key]) O p2 f True := by
 have e1 := fin_le hg.pl
 have e2 := beg_le p.t p.pl
 have e3 := fin_ge p.t p.pl
 refine ⟨olO p key, olP p key, ?_, ?_, hf, ?_, ?_, ?_, ⟨?_, fun h => by unfold isV5 at h; omega, fun h => absurd hv0 h⟩, fun r d m a mr md rd ha => by have := GivesB.ofD (f := f) (fun ww hh => mOpen r d (p.w a) key ww hh hg.ts hg.pl hk) mr md; rw [olP_w] at this; exact this⟩
 ·unfold olO; split <;> simp
 ·unfold olP
  split
  ·next h =>
   refine ⟨h, ?_, fun h => absurd rfl h, fun _ => Nat.zero_le _, Or.inr (Or.inl rfl), hg.n, hg.bh, hg.fd⟩
   show olE p key ≤ (put p.t (olT p key) (olK p key)).size
   have hz : (⟨#[10]⟩ : ByteArray).size = 1 := rfl
   unfold put olE olT olK
   simp only [ByteArray.size_append, ByteArray.size_extract]
   rcases hk with h | h
   ·subst h
    rw [if_neg qd, if_neg qd, if_neg qd]
    simp only [ByteArray.size_append]
    omega
   ·subst h
    rw [if_pos rfl, if_pos rfl, if_pos rfl]
    simp only [ByteArray.size_append]
    omega
  ·exact hg
 ·unfold olP; split <;> exact ⟨rfl, rfl, rfl⟩
 ·unfold olO olP
  split
  ·intro h; exact absurd h qd
  ·intro _; rfl
 ·unfold olO olP
  split
  ·intro _; exact ⟨fun _ => trivial, fun _ => rfl⟩
  ·intro h; exact absurd rfl h
 ·unfold olO olP
  split
  ·intro h; exact absurd h qd
  ·intro _; exact ⟨rfl, rfl, rfl⟩
theorem sShort (HA : AnyOk) (p : Pg) (f : Int → Value) (key : Int) (hg : GoodP p) (hf : GoodF f) (hm : p.mode = 0) (hv0 : p.verb = 0) (hk : key = 120 ∨ key = 88 ∨ key = 68 ∨ key = 67 ∨ key = 115 ∨ key = 83 ∨ key = 89) :
  ∃ O p2 f2, Did p f 151 (fun r => #[.agg #[.pointer (some ⟨r, 0, none⟩)], .int .u8 key]) O p2 f2 (key = 67 ∨ key = 115 ∨ key = 83) := by
 by_cases he : beg p.t p.pl = fin p.t p.pl ∧ (key = 68 ∨ key = 67 ∨ key = 115)
 ·by_cases h68 : key = 68
  ·subst h68
   exact ⟨4, p, f, Did.fail hg hf (fun r d m a mr md rd ha => GivesB.ofW (fun ww hh => mShort_fail r d (p.w a) ww hh hg.ts hg.pl he.1))⟩
  ·obtain ⟨O, p2, D⟩ := sBegin p f 105 hg hf hv0 (Or.inl rfl)
   refine ⟨O, p2, f, (D.fn (fun r d m a mr md rd ha => fun ww hh => mShort_begin r d (p.w a) key O (LA r d m (p.w a) f) (LA r d m (p2.w a) f) [r, d, m] ww hh LA.firm LA.firm (fun _ h => h.1) hg.ts hg.pl he.1 qo (D.c r d m a mr md rd ha))).iff ?_⟩
   simp only [true_iff]
   omega
 ·have hsv : isVb (spV key) := by
   unfold isVb spV
   split
   ·exact Or.inl rfl
   ·split
    ·exact Or.inr (Or.inl rfl)
    ·exact Or.inr (Or.inr (Or.inl rfl))
  have hg1 : GoodP { p with verb := spV key } := hg.begun p.reg p.n (spV key) p.behind p.part hg.n hg.bh
  have hx : nxtB { p with verb := spV key } (spK key) = none := by
   unfold nxtB
   split
   ·rfl
   ·rw [if_neg]
    unfold spK isFind
    rcases hk with h | h | h | h | h | h | h <;> subst h <;> decide
  rcases sBehind HA { p with verb := spV key } f (spK key) hg1 hf hm hsv with ⟨p2, h1, _⟩ | ⟨_, O, p2, f2, D⟩
  ·rw [hx] at h1; cases h1
  ·have hi : spV key = 99 ↔ (key = 67 ∨ key = 115 ∨ key = 83) := by
    unfold spV
    rcases hk with h | h | h | h | h | h | h <;> subst h <;> decide
   refine ⟨O, p2, f2, D.o, D.g, D.gf, D.k, D.e, fun h => (D.i h).trans hi, ⟨D.s.1, fun h => by unfold isV5 at h; omega, fun h => absurd hv0 h⟩, fun r d m a mr md rd ha => fun ww hh => mShort_verb r d (p.w a) key O (LA r d m (p.w a) f) (LA r d m (Pg.w { p with verb := spV key } a) f) (LA r d m (p2.w a) f2) [r, d, m] ww hh LA.firm LA.firm LA.firm (fun _ h => h.1) hg.ts hg.pl qi hk (fun h1 h2 => he ⟨h2, h1⟩) (fun w2 h2 => ⟨h2.1.set_verb _, h2.2.other mr _⟩) (D.c r d m a mr md rd ha)⟩
theorem sCommand (HA : AnyOk) (p : Pg) (f : Int → Value) (key : Int) (hg : GoodP p) (gb : GoodB p) (hf : GoodF f) (hm : p.mode = 0) (hv : p.verb = 0) (hp : p.part = 0) (hu : ¬ key = 117) (hre : ¬ key = 18) (hdot : ¬ key = 46) :
  StN p f 141 (fun r => #[.agg #[.pointer (some ⟨r, 0, none⟩)], .int .u8 key]) (nxtC p key) (insK p key) := by
 have hm1 : ¬ p.mode = 1 := by rw [hm]; decide
 have hc := cnt_le hg.n hg.bh
 have hik : insK p key ↔ (key = 105 ∨ key = 97 ∨ key = 73 ∨ key = 65 ∨ key = 111 ∨ key = 79 ∨ key = 67 ∨ key = 115 ∨ key = 83) := by
  unfold insK
  rw [hv, hp]
  simp
 have nF : ∀ k : Int, key = k → ¬ (k = 102 ∨ k = 116 ∨ k = 70 ∨ k = 84) → isFind key = false := by
  intro k e h
  subst e
  unfold isFind
  simp
  omega
 by_cases k1 : key = 34
 ·have go : ∀ O (p2 : Pg) f2, ∀ r d m (a : Ptr), m ≠ r → m ≠ d → r ≠ d → a.1 = .map (some m) → GivesB 149 #[.pointer (some ⟨r, 1, none⟩)] (LA r d m (p.w a) f) (LA r d m (p2.w a) f2) O [r, d, m] → GivesB 141 #[.agg #[.pointer (some ⟨r, 0, none⟩)], .int .u8 key] (LA r d m (p.w a) f) (LA r d m (p2.w a) f2) O [r, d, m] := fun O p2 f2 r d m a mr md rd ha h ww hh => mCommand_lead r d (p.w a) key O (LA r d m (p.w a) f) (LA r d m (p2.w a) f2) [r, d, m] ww hh LA.firm LA.firm (fun _ h => h.1) k1 h
  cases hw : waits p with
  | true => exact Or.inr ⟨by unfold nxtC; rw [if_pos k1, if_pos hw], 4, p, f, Did.fail hg hf (fun r d m a mr md rd ha => go _ _ _ r d m a mr md rd ha (GivesB.ofW (fun ww hh => mLead_no r d (p.w a) ww hh hw)))⟩
  | false => exact Or.inl ⟨{ p with part := 34 }, by unfold nxtC; rw [if_pos k1, if_neg (by simp [hw])], hg.begun p.reg p.n p.verb p.behind 34 hg.n hg.bh, ⟨gb.vb, Or.inr (Or.inr (Or.inr (Or.inl rfl))), fun h => absurd h hm1⟩, ⟨p.reg, p.n, p.verb, p.behind, 34, rfl⟩, fun r d m a mr md rd ha => go _ _ _ r d m a mr md rd ha (GivesB.ofr (fun ww hh => mLead_yes r d (p.w a) ww hh hw) mr md)⟩
 by_cases k2 : key = 100 ∨ key = 99 ∨ key = 121 ∨ key = 62 ∨ key = 60
 ·exact Or.inl ⟨{ p with verb := key }, by unfold nxtC; rw [if_neg k1, if_pos k2], hg.begun p.reg p.n key p.behind p.part hg.n hg.bh, ⟨Or.inr ⟨by show isVb key; unfold isVb; omega, hm⟩, Or.inl hp, fun h => absurd h hm1⟩, ⟨p.reg, p.n, key, p.behind, p.part, rfl⟩, fun r d m a mr md rd ha => fun ww hh => mCommand_toVerb r d (p.w a) key 0 (LA r d m (p.w a) f) (LA r d m (Pg.w { p with verb := key } a) f) [r, d, m] ww hh LA.firm LA.firm (fun _ h => h.1) k2 (GivesB.ofr (fun w2 h2 => mToVerb r d (p.w a) key w2 h2) mr md)⟩
 by_cases k3 : key = 114
 ·exact Or.inl ⟨{ p with part := key }, by unfold nxtC; rw [if_neg k1, if_neg k2, if_pos (Or.inl k3)], hg.begun p.reg p.n p.verb p.behind key hg.n hg.bh, ⟨gb.vb, Or.inr (Or.inr (Or.inr (Or.inr (Or.inl ⟨k3, hm, hv⟩)))), fun h => absurd h hm1⟩, ⟨p.reg, p.n, p.verb, p.behind, key, rfl⟩, fun r d m a mr md rd ha => fun ww hh => mCommand_r r d (p.w a) key 0 (LA r d m (p.w a) f) (LA r d m (Pg.w { p with part := key } a) f) [r, d, m] ww hh LA.firm LA.firm (fun _ h => h.1) k3 (GivesB.ofr (fun w2 h2 => mAwait r d (p.w a) key w2 h2) mr md)⟩
 by_cases k4 : isFind key = true ∨ key = 103
 ·have hkc : ∀ c, c ∈ kCmd → ¬ key = c := by
   intro c hc e
   subst e
   unfold isFind at k4
   simp only [Bool.or_eq_true, beq_iff_eq] at k4
   simp only [kCmd, List.mem_cons, List.not_mem_nil, or_false] at hc
   omega
  refine Or.inl ⟨{ p with part := key }, by unfold nxtC; rw [if_neg k1, if_neg k2, if_pos (Or.inr k4)], hg.begun p.reg p.n p.verb p.behind key hg.n hg.bh, ⟨gb.vb, ?_, fun h => absurd h hm1⟩, ⟨p.reg, p.n, p.verb, p.behind, key, rfl⟩, fun r d m a mr md rd ha => GivesB.ofR (fun ww hh => mCommand_way r d (p.w a) (Pg.w { p with part := key } a) key 0 ww hh hkc (fun w2 h2 => Calls.mono (mWay_part r d (p.w a) key w2 h2 k4) (fun _ _ ⟨a, b, c⟩ => ⟨a, b, c.mono qi⟩))) mr md⟩
  rcases k4 with h | h
  ·exact Or.inr (Or.inl h)
  ·exact Or.inr (Or.inr (Or.inl h))
 have hnone : nxtC p key = none := by
  unfold nxtC
  rw [if_neg k1, if_neg k2, if_neg]
  rintro (h | h)
  ·exact k3 h
  ·exact k4 h
 have k4' : isFind key = false ∧ ¬ key = 103 := by
  refine ⟨?_, fun e => k4 (Or.inr e)⟩
  cases h : isFind key
  ·rfl
  ·exact absurd (Or.inl h) k4
 refine Or.inr ⟨hnone, ?_⟩
 by_cases k5 : key = 118 ∨ key = 86
 ·refine ⟨1, { p with mode := if key = 86 then 3 else 2, anchor := p.pl }, f, Or.inl rfl, ⟨hg.ts, hg.pl, fun _ => hg.st hm1, fun _ => hg.pl, ?_, hg.n, hg.bh, hg.fd⟩, hf, ⟨rfl, rfl, rfl⟩, (fun h => absurd h qd), (fun _ => ?_), ⟨fun h => absurd h qd, fun h => by unfold isV5 at h; omega, fun h => absurd hv h⟩, fun r d m a mr md rd ha => GivesB.ofR (fun ww hh => mCommand_mark r d (p.w a) key ww hh k5) mr md⟩
  ·show (if key = 86 then (3 : Int) else 2) = 0 ∨ _
   split <;> simp
  ·rw [hik]
   show (if key = 86 then (3 : Int) else 2) = 1 ↔ _
   split <;> omega
 by_cases k6 : key = 120 ∨ key = 88 ∨ key = 68 ∨ key = 67 ∨ key = 115 ∨ key = 83 ∨ key = 89
 ·obtain ⟨O, p2, f2, D⟩ := sShort HA p f key hg hf hm hv k6
  exact ⟨O, p2, f2, (D.fn (fun r d m a mr md rd ha => fun ww hh => mCommand_short r d (p.w a) key O (LA r d m (p.w a) f) (LA r d m (p2.w a) f2) [r, d, m] ww hh LA.firm LA.firm (fun _ h => h.1) k6 (D.c r d m a mr md rd ha))).iff (by rw [hik]; omega)⟩
 by_cases k7 : key = 105 ∨ key = 97 ∨ key = 73 ∨ key = 65
 ·obtain ⟨O, p2, D⟩ := sBegin p f key hg hf hv k7
  exact ⟨O, p2, f, (D.fn (fun r d m a mr md rd ha => fun ww hh => mCommand_begin r d (p.w a) key O (LA r d m (p.w a) f) (LA r d m (p2.w a) f) [r, d, m] ww hh LA.firm LA.firm (fun _ h => h.1) k7 (D.c r d m a mr md rd ha))).iff (by rw [hik]; simp only [true_iff]; omega)⟩
 by_cases k8 : key = 111 ∨ key = 79
 ·obtain ⟨O, p2, D⟩ := sOpen p f key hg hf hv k8
  exact ⟨O, p2, f, (D.fn (fun r d m a mr md rd ha => fun ww hh => mCommand_open r d (p.w a) key O (LA r d m (p.w a) f) (LA r d m (p2.w a) f) [r, d, m] ww hh LA.firm LA.firm (fun _ h => h.1) k8 (D.c r d m a mr md rd ha))).iff (by rw [hik]; simp only [true_iff]; omega)⟩
 have hiF : False ↔ insK p key := by rw [hik]; simp only [false_iff]; omega
 by_cases k9 : key = 112 ∨ key = 80
 ·obtain ⟨s, l, hs, hz⟩ := hf (rdN p.reg)
  obtain ⟨X, q, is, hq, HX⟩ := eLaid p.t s p.pl (max (cnt p) 1) l (key == 112) hg.ts hg.pl hz qo qo
  obtain ⟨O, p2, D⟩ := sEdit p f X q is hg hf hm hq
  exact ⟨O, p2, f, (D.fn (fun r d m a mr md rd ha => fun ww hh => mCommand_lay r d (p.w a) key O (LA r d m (p.w a) f) (LA r d m (p2.w a) f) [r, d, m] ww hh LA.firm LA.firm (fun _ h => h.1) k9 (fun w2 h2 => mLay r d m (p.w a) key O s l X q is (LA r d m (p.w a) f) (LA r d m (p2.w a) f) [r, d, m] w2 h2 LA.firm LA.firm (fun _ h => h.1) ha (tl3_of h2) k9 (fun w3 h3 => rRead m p.reg f s l w3 h3.2 hs) (fun w3 h3 => mSpot r d (p.w a) w3 h3.1 hg.n hg.bh) HX (D.c r d m a mr md rd ha)))).iff hiF⟩
 by_cases k10 : key = 126
 ·subst k10
  obtain ⟨X, q, is, hq, HX⟩ := eTurned p.t p.pl (max (cnt p) 1) hg.ts hg.pl qo
  obtain ⟨O, p2, D⟩ := sEdit p f X q is hg hf hm hq
  exact ⟨O, p2, f, (D.fn (fun r d m a mr md rd ha => fun ww hh => mCommand_turn r d (p.w a) O X q is (LA r d m (p.w a) f) (LA r d m (p2.w a) f) [r, d, m] ww hh LA.firm LA.firm (fun _ h => h.1) (tl3_of hh) (fun w3 h3 => mSpot r d (p.w a) w3 h3.1 hg.n hg.bh) HX (D.c r d m a mr md rd ha))).iff hiF⟩
 by_cases k11 : key = 74
 ·subst k11
  obtain ⟨X, q, is, hq, HX⟩ := eJoined p.t p.pl (max (cnt p) 1) hg.ts hg.pl qo
  obtain ⟨O, p2, D⟩ := sEdit p f X q is hg hf hm hq
  exact ⟨O, p2, f, (D.fn (fun r d m a mr md rd ha => fun ww hh => mCommand_join r d (p.w a) O X q is (LA r d m (p.w a) f) (LA r d m (p2.w a) f) [r, d, m] ww hh LA.firm LA.firm (fun _ h => h.1) (tl3_of hh) (fun w3 h3 => mSpot r d (p.w a) w3 h3.1 hg.n hg.bh) HX (D.c r d m a mr md rd ha))).iff hiF⟩
 have hkc : ∀ c, c ∈ kCmd → ¬ key = c := by
  intro c hc e
  subst e
  simp only [kCmd, List.mem_cons, List.not_mem_nil, or_false] at hc
  omega
 obtain ⟨O, p2, D⟩ := sWay0 HA p f key hg hf hm1 hv k4'.1 k4'.2
 exact ⟨O, p2, f, (D.fn (fun r d m a mr md rd ha => fun ww hh => mCommand_wayB r d (p.w a) key O (LA r d m (p.w a) f) (LA r d m (p2.w a) f) [r, d, m] ww hh LA.firm LA.firm (fun _ h => h.1) hkc (D.c r d m a mr md rd ha))).iff hiF⟩
theorem sTakeN (HA : AnyOk) (p : Pg) (f : Int → Value) (c : UInt8) (hg : GoodP p) (gb : GoodB p) (hf : GoodF f) (hm : p.mode = 0) (hx : p.verb = 0 → p.part = 0 → ¬ (c.toNat : Int) = 117 ∧ ¬ (c.toNat : Int) = 18 ∧ ¬ (c.toNat : Int) = 46) :
  StN p f 137 (fun r => #[.agg #[.pointer (some ⟨r, 0, none⟩)], .int .u8 c.toNat]) (nxt p c.toNat) (insK p c.toNat) := by
 have hm1 : ¬ p.mode = 1 := by rw [hm]; decide
 unfold nxt
 by_cases hp : p.part = 0
 ·rw [if_neg (fun h => h hp)]
  rcases isVb_or gb with hv | hv
  ·rw [if_pos hv]
   cases hd : isD p.n c.toNat with
   | true => exact Or.inl ⟨{ p with n := nextN p.n c.toNat }, by rw [if_pos rfl], hg.begun p.reg _ p.verb p.behind p.part (nextN_le _ _) hg.bh, ⟨gb.vb, gb.pt, fun h => absurd h hm1⟩, ⟨p.reg, _, p.verb, p.behind, p.part, rfl⟩, fun r d m a mr md rd ha => GivesB.ofR (fun ww hh => mTake_digit r d (p.w a) c.toNat ww hh hp hv hg.n hd) mr md⟩
   | false =>
    rw [if_neg qd]
    obtain ⟨x1, x2, x3⟩ := hx hv hp
    exact StN.to (sCommand HA p f c.toNat hg gb hf hm hv hp x1 x2 x3) (fun O p2 f2 r d m a mr md rd ha h ww hh => mTake_cmdB r d (p.w a) c.toNat O (LA r d m (p.w a) f) (LA r d m (p2.w a) f2) [r, d, m] ww hh LA.firm LA.firm (fun _ h => h.1) hp hv hd h)
  ·have hv0 := (vb_flags hv).2
   rw [if_neg hv0]
   cases hd : isD p.behind c.toNat with
   | true => exact Or.inl ⟨{ p with behind := nextN p.behind c.toNat }, by rw [if_pos rfl], hg.begun p.reg p.n p.verb _ p.part hg.n (nextN_le _ _), ⟨gb.vb, gb.pt, fun h => absurd h hm1⟩, ⟨p.reg, p.n, p.verb, _, p.part, rfl⟩, fun r d m a mr md rd ha => GivesB.ofR (fun ww hh => mTake_digitV r d (p.w a) c.toNat ww hh hp hv0 hg.bh hd) mr md⟩
   | false =>
    rw [if_neg qd]
    have hi : p.verb = 99 ↔ insK p c.toNat := by
     unfold insK
     constructor
     ·exact Or.inl
     ·rintro (h | h)
      ·exact h
      ·exact absurd h.1 hv0
    have h1 := StN.to (sBehind HA p f c.toNat hg hf hm hv) (fun O p2 f2 r d m a mr md rd ha h ww hh => mTake_behind r d (p.w a) c.toNat O (LA r d m (p.w a) f) (LA r d m (p2.w a) f2) [r, d, m] ww hh LA.firm LA.firm (fun _ h => h.1) hp hv0 hd h)
    rcases h1 with h1 | ⟨h1, O, p2, f2, D⟩
    ·exact Or.inl h1
    ·exact Or.inr ⟨h1, O, p2, f2, D.iff hi⟩
 ·rw [if_pos hp]
  exact StN.to (sNComp HA p f c hg gb hf hm hp) (fun O p2 f2 r d m a mr md rd ha h ww hh => mTake_partB r d (p.w a) c.toNat O (LA r d m (p.w a) f) (LA r d m (p2.w a) f2) [r, d, m] ww hh LA.firm LA.firm (fun _ h => h.1) hp h)
def nxtM (p : Pg) (key : Int) : Option Pg :=
 if ¬ p.part = 0 then (if p.part = 34 ∧ (key = 34 ∨ (97 ≤ key ∧ key ≤ 122)) then some { p with reg := key, part := 0 } else none)
 else if isD p.n key = true then some { p with n := nextN p.n key }
 else if key = 34 then (if waits p = true then none else some { p with part := 34 })
 else if key = 105 ∨ key = 97 ∨ isFind key = true ∨ key = 103 then some { p with part := key } else none
def insM (p : Pg) (key : Int) : Prop := p.part = 0 ∧ (key = 99 ∨ key = 115)
theorem sMarked (v : Int) (p : Pg) (f : Int → Value) (hg : GoodP p) (hf : GoodF f) (hm : p.mode = 2 ∨ p.mode = 3) (hv0 : p.verb = 0) (hv : isVb v) :
  ∃ (i j : Nat) (l : Bool) (O : Int) (p2 : Pg) (f2 : Int → Value), (∀ r d m (a : Ptr) ww, LA r d m (p.w a) f ww → qC 313 #[.agg #[.pointer (some ⟨r, 0, none⟩)]] ww (.agg #[.int .i64 (i : Int), .int .i64 (j : Int), .bool l])) ∧ Did p f 146 (fun r => #[.pointer (some ⟨r, 0, none⟩), .int .u8 v, .agg #[.int .i64 i, .int .i64 j, .bool l]]) O p2 f2 (v = 99) := by
 have ha := hg.an hm
 have hpl := hg.pl
 have fin : ∀ (i j : Nat) (l : Bool), i ≤ j → j ≤ p.t.size → (∀ r d m (a : Ptr) ww, LA r d m (p.w a) f ww → qC 313 #[.agg #[.pointer (some ⟨r, 0, none⟩)]] ww (.agg #[.int .i64 (i : Int), .int .i64 (j : Int), .bool l])) → ∃ (i j : Nat) (l : Bool) (O : Int) (p2 : Pg) (f2 : Int → Value), (∀ r d m (a : Ptr) ww, LA r d m (p.w a) f ww → qC 313 #[.agg #[.pointer (some ⟨r, 0, none⟩)]] ww (.agg #[.int .i64 (i : Int), .int .i64 (j : Int), .bool l])) ∧ Did p f 146 (fun r => #[.pointer (some ⟨r, 0, none⟩), .int .u8 v, .agg #[.int .i64 i, .int .i64 j, .bool l]]) O p2 f2 (v = 99) := by
  intro i j l hij hj HM
  obtain ⟨O, p2, f2, a1, a2, a3, a4, _, a5, a6, a7, HD⟩ := sDoD v p f i j l hg hf hv hij hj
  exact ⟨i, j, l, O, p2, f2, HM, a1, a2, a3, a4, a5, a6, ⟨a7.1, fun h => by unfold isV5 at h; omega, fun h => absurd hv0 h⟩, fun r d m a mr md rd ha => GivesB.more (HD r d m a mr md ha)⟩
 rcases hm with h2 | h3
 ·exact fin (min p.anchor p.pl) (min (max p.anchor p.pl + 1) p.t.size) false qo qo (fun r d m a ww hh => mMarked_bytes r d (p.w a) ww hh.1 hg.ts hpl ha h2)
 ·have e1 := fin_le hpl
  have e2 := fin_le ha
  have e3 := fin_ge p.t p.pl
  have e4 := beg_le p.t p.pl
  refine fin (min (beg p.t p.anchor) (beg p.t p.pl)) (max (Nib.fin p.t p.anchor) (Nib.fin p.t p.pl)) true qo qo (fun r d m a ww hh => ?_)
  have := mMarked_lines r d (p.w a) ww hh.1 hg.ts hpl ha h3
  rw [show ((min (beg p.t p.anchor) (beg p.t p.pl) : Nat) : Int) = min (beg p.t p.anchor : Int) (beg p.t p.pl) by omega, show ((max (Nib.fin p.t p.anchor) (Nib.fin p.t p.pl) : Nat) : Int) = max (Nib.fin p.t p.anchor : Int) (Nib.fin p.t p.pl) by omega]
  exact this
theorem sMCommand (HA : AnyOk) (p : Pg) (f : Int → Value) (key : Int) (hg : GoodP p) (gb : GoodB p) (hf : GoodF f) (hm : p.mode = 2 ∨ p.mode = 3) (hp : p.part = 0) (hv : p.verb = 0) (hd : isD p.n key = false) :
  StN p f 310 (fun r => #[.agg #[.pointer (some ⟨r, 0, none⟩)], .int .u8 key]) (nxtM p key) (insM p key) := by
 have hm1 : ¬ p.mode = 1 := by omega
 have hnx : nxtM p key = if key = 34 then (if waits p = true then none else some { p with part := 34 }) else if key = 105 ∨ key = 97 ∨ isFind key = true ∨ key = 103 then some { p with part := key } else none := by
  unfold nxtM
  rw [if_neg (fun h => h hp), hd, if_neg qd]
 have hik : insM p key ↔ (key = 99 ∨ key = 115) := by
  unfold insM
  rw [hp]
  simp
 rw [hnx]
 by_cases k1 : key = 34
 ·rw [if_pos k1]
  have go : ∀ O (p2 : Pg) f2, ∀ r d m (a : Ptr), m ≠ r → m ≠ d → r ≠ d → a.1 = .map (some m) → GivesB 149 #[.pointer (some ⟨r, 1, none⟩)] (LA r d m (p.w a) f) (LA r d m (p2.w a) f2) O [r, d, m] → GivesB 310 #[.agg #[.pointer (some ⟨r, 0, none⟩)], .int .u8 key] (LA r d m (p.w a) f) (LA r d m (p2.w a) f2) O [r, d, m] := fun O p2 f2 r d m a mr md rd ha h ww hh => mMCommand_lead r d (p.w a) key O (LA r d m (p.w a) f) (LA r d m (p2.w a) f2) [r, d, m] ww hh LA.firm LA.firm (fun _ h => h.1) k1 h
  cases hw : waits p with
  | true => exact Or.inr ⟨by rw [if_pos rfl], 4, p, f, Did.fail hg hf (fun r d m a mr md rd ha => go _ _ _ r d m a mr md rd ha (GivesB.ofW (fun ww hh => mLead_no r d (p.w a) ww hh hw)))⟩
  | false => exact Or.inl ⟨{ p with part := 34 }, by rw [if_neg qd], hg.begun p.reg p.n p.verb p.behind 34 hg.n hg.bh, ⟨gb.vb, Or.inr (Or.inr (Or.inr (Or.inl rfl))), fun h => absurd h hm1⟩, ⟨p.reg, p.n, p.verb, p.behind, 34, rfl⟩, fun r d m a mr md rd ha => go _ _ _ r d m a mr md rd ha (GivesB.ofr (fun ww hh => mLead_yes r d (p.w a) ww hh hw) mr md)⟩
 rw [if_neg k1]
 by_cases k2 : key = 105 ∨ key = 97
 ·exact Or.inl ⟨{ p with part := key }, by rw [if_pos qo], hg.begun p.reg p.n p.verb p.behind key hg.n hg.bh, ⟨gb.vb, Or.inr (Or.inr (Or.inr (Or.inr (Or.inr ⟨k2, Or.inr hm⟩)))), fun h => absurd h hm1⟩, ⟨p.reg, p.n, p.verb, p.behind, key, rfl⟩, fun r d m a mr md rd ha => fun ww hh => mMCommand_await r d (p.w a) key 0 (LA r d m (p.w a) f) (LA r d m (Pg.w { p with part := key } a) f) [r, d, m] ww hh LA.firm LA.firm (fun _ h => h.1) k2 (GivesB.ofr (fun w2 h2 => mAwait r d (p.w a) key w2 h2) mr md)⟩
 by_cases k4 : isFind key = true ∨ key = 103
 ·have hkc : ∀ c, c ∈ kMrk → ¬ key = c := by
   intro c hc e
   subst e
   unfold isFind at k4
   simp only [Bool.or_eq_true, beq_iff_eq] at k4
   simp only [kMrk, List.mem_cons, List.not_mem_nil, or_false] at hc
   omega
  refine Or.inl ⟨{ p with part := key }, by rw [if_pos (Or.inr (Or.inr k4))], hg.begun p.reg p.n p.verb p.behind key hg.n hg.bh, ⟨gb.vb, ?_, fun h => absurd h hm1⟩, ⟨p.reg, p.n, p.verb, p.behind, key, rfl⟩, fun r d m a mr md rd ha => GivesB.ofR (fun ww hh => mMCommand_way r d (p.w a) (Pg.w { p with part := key } a) key 0 ww hh hkc (fun w2 h2 => Calls.mono (mWay_part r d (p.w a) key w2 h2 k4) (fun _ _ ⟨a, b, c⟩ => ⟨a, b, c.mono qi⟩))) mr md⟩
  rcases k4 with h | h
  ·exact Or.inr (Or.inl h)
  ·exact Or.inr (Or.inr (Or.inl h))
 have k4' : isFind key = false ∧ ¬ key = 103 := by
  refine ⟨?_, fun e => k4 (Or.inr e)⟩
  cases h : isFind key
  ·rfl
  ·exact absurd (Or.inl h) k4
 refine Or.inr ⟨?_, ?_⟩
 ·rw [if_neg]
  rintro (h | h | h)
  ·exact k2 (Or.inl h)
  ·exact k2 (Or.inr h)
  ·exact k4 h
 by_cases k5 : key = 111
 ·have han := hg.an hm
  refine ⟨1, { p with anchor := p.pl, pl := clm p.t p.anchor }, f, Or.inl rfl, ⟨hg.ts, clm_in han, fun _ => clm_settled han, fun _ => hg.pl, hg.mo, hg.n, hg.bh, hg.fd⟩, hf, ⟨rfl, rfl, rfl⟩, (fun h => absurd h qd), (fun _ => by rw [hik]; show p.mode = 1 ↔ _; omega), ⟨fun h => absurd h qd, fun h => by unfold isV5 at h; omega, fun h => absurd hv h⟩, fun r d m a mr md rd ha => fun ww hh => mMCommand_ends r d (p.w a) key 1 (LA r d m (p.w a) f) (LA r d m (Pg.w { p with anchor := p.pl, pl := clm p.t p.anchor } a) f) [r, d, m] ww hh LA.firm LA.firm (fun _ h => h.1) k5 (GivesB.ofD (fun w2 h2 => mEnds r d (p.w a) w2 h2 hg.ts han) mr md)⟩
 by_cases k6 : key = 118 ∨ key = 86
 ·by_cases hM : p.mode = (if key = 86 then 3 else 2)
  ·refine ⟨1, { p with mode := 0, anchor := 0 }, f, Or.inl rfl, ⟨hg.ts, hg.pl, fun _ => hg.st hm1, fun _ => Nat.zero_le _, Or.inl rfl, hg.n, hg.bh, hg.fd⟩, hf, ⟨rfl, rfl, rfl⟩, (fun h => absurd h qd), (fun _ => ?_), ⟨fun h => absurd h qd, fun h => by unfold isV5 at h; omega, fun h => absurd hv h⟩, fun r d m a mr md rd ha => GivesB.ofR (fun ww hh => ?_) mr md⟩
   ·rw [hik]
    show (0 : Int) = 1 ↔ _
    omega
   ·have := mMCommand_turn r d (p.w a) key ww hh k6
    rw [if_pos hM] at this
    exact this
  ·refine ⟨1, { p with mode := if key = 86 then 3 else 2 }, f, Or.inl rfl, ⟨hg.ts, hg.pl, fun _ => hg.st hm1, fun _ => hg.an hm, ?_, hg.n, hg.bh, hg.fd⟩, hf, ⟨rfl, rfl, rfl⟩, (fun h => absurd h qd), (fun _ => ?_), ⟨fun h => absurd h qd, fun h => by unfold isV5 at h; omega, fun h => absurd hv h⟩, fun r d m a mr md rd ha => GivesB.ofR (fun ww hh => ?_) mr md⟩
   ·show (if key = 86 then (3 : Int) else 2) = 0 ∨ _
    split <;> simp
   ·rw [hik]
    show (if key = 86 then (3 : Int) else 2) = 1 ↔ _
    split <;> omega
   ·have := mMCommand_turn r d (p.w a) key ww hh k6
    rw [if_neg hM] at this
    exact this
 by_cases k7 : key = 120
 ·obtain ⟨i, j, l, O, p2, f2, HM, D⟩ := sMarked 100 p f hg hf hm hv (Or.inl rfl)
  exact ⟨O, p2, f2, (D.fn (fun r d m a mr md rd ha => fun ww hh => mMCommand_x r d (p.w a) key O i j l (LA r d m (p.w a) f) (LA r d m (p2.w a) f2) [r, d, m] ww hh LA.firm LA.firm (fun _ h => h.1) (tl3_of hh) k7 (HM r d m a) (D.c r d m a mr md rd ha))).iff (by rw [hik]; omega)⟩
 by_cases k8 : key = 115
 ·obtain ⟨i, j, l, O, p2, f2, HM, D⟩ := sMarked 99 p f hg hf hm hv (Or.inr (Or.inl rfl))
  exact ⟨O, p2, f2, (D.fn (fun r d m a mr md rd ha => fun ww hh => mMCommand_s r d (p.w a) key O i j l (LA r d m (p.w a) f) (LA r d m (p2.w a) f2) [r, d, m] ww hh LA.firm LA.firm (fun _ h => h.1) (tl3_of hh) k8 (HM r d m a) (D.c r d m a mr md rd ha))).iff (by rw [hik]; omega)⟩
 by_cases k9 : isVb key
 ·obtain ⟨i, j, l, O, p2, f2, HM, D⟩ := sMarked key p f hg hf hm hv k9
  exact ⟨O, p2, f2, (D.fn (fun r d m a mr md rd ha => fun ww hh => mMCommand_do r d (p.w a) key O i j l (LA r d m (p.w a) f) (LA r d m (p2.w a) f2) [r, d, m] ww hh LA.firm LA.firm (fun _ h => h.1) (tl3_of hh) k9 (HM r d m a) (D.c r d m a mr md rd ha))).iff (by rw [hik]; omega)⟩
 unfold isVb at k9
 have hkc : ∀ c, c ∈ kMrk → ¬ key = c := by
  intro c hc e
  subst e
  simp only [kMrk, List.mem_cons, List.not_mem_nil, or_false] at hc
  omega
 obtain ⟨O, p2, D⟩ := sWay0 HA p f key hg hf hm1 hv k4'.1 k4'.2
 exact ⟨O, p2, f, (D.fn (fun r d m a mr md rd ha => fun ww hh => mMCommand_wayB r d (p.w a) key O (LA r d m (p.w a) f) (LA r d m (p2.w a) f) [r, d, m] ww hh LA.firm LA.firm (fun _ h => h.1) hkc (D.c r d m a mr md rd ha))).iff (by rw [hik]; simp only [false_iff]; omega)⟩
theorem sTakeM (HA : AnyOk) (p : Pg) (f : Int → Value) (key : Int) (hg : GoodP p) (gb : GoodB p) (hf : GoodF f) (hm : p.mode = 2 ∨ p.mode = 3) :
  StN p f 309 (fun r => #[.agg #[.pointer (some ⟨r, 0, none⟩)], .int .u8 key]) (nxtM p key) (insM p key) := by
 have hm1 : ¬ p.mode = 1 := by omega
 have hv : p.verb = 0 := by
  rcases gb.vb with h | h
  ·exact h
  ·omega
 by_cases hp : p.part = 0
 ·cases hd : isD p.n key with
  | true => exact Or.inl ⟨{ p with n := nextN p.n key }, by unfold nxtM; rw [if_neg (fun h => h hp), if_pos hd], hg.begun p.reg _ p.verb p.behind p.part (nextN_le _ _) hg.bh, ⟨gb.vb, gb.pt, fun h => absurd h hm1⟩, ⟨p.reg, _, p.verb, p.behind, p.part, rfl⟩, fun r d m a mr md rd ha => GivesB.ofR (fun ww hh => mMTake_digit r d (p.w a) key ww hh hp hv hg.n hd) mr md⟩
  | false => exact StN.to (sMCommand HA p f key hg gb hf hm hp hv hd) (fun O p2 f2 r d m a mr md rd ha h ww hh => mMTake_cmdB r d (p.w a) key O (LA r d m (p.w a) f) (LA r d m (p2.w a) f2) [r, d, m] ww hh LA.firm LA.firm (fun _ h => h.1) hp hv hd h)
 ·have hnx : nxtM p key = if p.part = 34 ∧ (key = 34 ∨ (97 ≤ key ∧ key ≤ 122)) then some { p with reg := key, part := 0 } else none := by
   unfold nxtM
   rw [if_pos hp]
  have hik : insM p key ↔ False := by
   unfold insM
   simp [hp]
  rw [hnx]
  refine StN.to (fn := 145) (args := fun r => #[.pointer (some ⟨r, 0, none⟩), .int .u8 key]) ?_ (fun O p2 f2 r d m a mr md rd ha h ww hh => mMTake_partB r d (p.w a) key O (LA r d m (p.w a) f) (LA r d m (p2.w a) f2) [r, d, m] ww hh LA.firm LA.firm (fun _ h => h.1) hp h)
  by_cases h3 : p.part = 34
  ·have cn : ∀ O (p2 : Pg) f2, ∀ r d m (a : Ptr), m ≠ r → m ≠ d → r ≠ d → a.1 = .map (some m) → GivesB 165 #[.pointer (some ⟨r, 1, none⟩), .int .u8 key] (LA r d m (p.w a) f) (LA r d m (p2.w a) f2) O [r, d, m] → GivesB 145 #[.pointer (some ⟨r, 0, none⟩), .int .u8 key] (LA r d m (p.w a) f) (LA r d m (p2.w a) f2) O [r, d, m] := fun O p2 f2 r d m a mr md rd ha h ww hh => mComplete_name r d (p.w a) key O (LA r d m (p.w a) f) (LA r d m (p2.w a) f2) [r, d, m] ww hh LA.firm LA.firm (fun _ h => h.1) h3 h
   by_cases hk : key = 34 ∨ (97 ≤ key ∧ key ≤ 122)
   ·exact Or.inl ⟨{ p with reg := key, part := 0 }, by rw [if_pos ⟨h3, hk⟩], hg.begun key p.n p.verb p.behind 0 hg.n hg.bh, ⟨gb.vb, Or.inl rfl, fun h => absurd h hm1⟩, ⟨key, p.n, p.verb, p.behind, 0, rfl⟩, fun r d m a mr md rd ha => cn _ _ _ r d m a mr md rd ha (GivesB.ofr (fun ww hh => mName_yes r d (p.w a) key ww hh hk) mr md)⟩
   ·exact Or.inr ⟨by rw [if_neg (fun h => hk h.2)], 4, p, f, Did.fail hg hf (fun r d m a mr md rd ha => cn _ _ _ r d m a mr md rd ha (GivesB.ofW (fun ww _ => mName_no r key ww qo qo)))⟩
  ·have hpp : isFind p.part = true ∨ p.part = 103 ∨ p.part = 105 ∨ p.part = 97 := by
    rcases gb.pt with h | h | h | h | h | h
    ·exact absurd h hp
    ·exact Or.inl h
    ·exact Or.inr (Or.inl h)
    ·exact absurd h h3
    ·omega
    ·exact Or.inr (Or.inr h.1)
   obtain ⟨O, p2, f2, D⟩ := sComplete HA p f key hg gb hf hm1 hpp
   exact Or.inr ⟨by rw [if_neg (fun h => h3 h.1)], O, p2, f2, D.iff (by rw [hik, hv]; decide)⟩
