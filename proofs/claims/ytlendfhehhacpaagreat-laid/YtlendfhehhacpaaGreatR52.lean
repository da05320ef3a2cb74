/- A part. -/
import Derived.Test.YtlendfhehhacpaaGreatR51
set_option linter.unusedVariables false
set_option linter.unusedSimpArgs false
set_option maxRecDepth 100000
set_option maxHeartbeats 8000000
namespace Go.Proofs.YtlendfhehhacpaaGreat
open Go.RowKit Nib Tryz
theorem StS.firm {t0 : ByteArray} {w0 : World} {Ow : List Nat} {b r d m N : Nat} : Firm (StS t0 w0 Ow b r d m N) := by
 rintro w w' ⟨p, f, tv, ns, dg, x, h1, h2⟩ hb
 exact ⟨p, f, tv, ns, dg, x, h1, Mem.firm _ _ h2 hb⟩
theorem StS.up {t0 : ByteArray} {w0 ww : World} {Ow : List Nat} {b r d m N : Nat} (h : StS t0 w0 Ow b r d m N ww) : Upd (b :: r :: d :: m :: Ow) w0 ww := by
 obtain ⟨_, _, _, _, _, _, _, h2⟩ := h
 exact h2.up
theorem New7.sts {w W : World} {q b r d m : Nat} {t : ByteArray} (N : New7 w W q b r d m t) (ht : t.size ≤ 1000) : Fix W [] b r d m ∧ StS t W [] b r d m 0 W := by
 refine ⟨⟨N.ly, N.rd.ne, N.bd.lt, N.rd.bg.lt, N.rd.dk.lt, N.rg.lt, fun k hk => by simp at hk⟩, newPg t m, f0, .slice none 0 0, [], ⟨#[]⟩, (t, [], []), ?_, ?_⟩
 ·exact ⟨⟨ht, Nat.zero_le _, fun _ => zero_settled _, fun _ => Nat.zero_le _, Or.inl rfl, Nat.zero_le _, Nat.zero_le _, Or.inl rfl, rfl⟩, ⟨Or.inl rfl, Or.inl rfl, fun h => absurd h (by show ¬ (0 : Int) = 1; decide)⟩, fun c => ⟨⟨#[]⟩, false, rfl, by decide⟩, ⟨rfl, ht, trivial, trivial, Nat.le_refl _⟩, Nat.le_refl _, fun _ => rfl, Or.inl ⟨rfl, rfl⟩, Or.inl rfl, Nat.le_refl _, rfl, fun h => absurd h (by show ¬ (0 : Int) = 1; decide)⟩
 ·exact ⟨N.bd, N.rd, N.rg, World.ownsRow_nil _ _ _ _, World.ownsRow_nil _ _ _ _, World.ownsRow_nil _ _ _ _, (fun k hk => by simp [Value.ownBlock] at hk), (fun k hk => by simp [newPg, Value.ownBlock] at hk), (fun k hk => by simp [newPg, Value.ownBlock] at hk), (fun k hk => by simp [Value.ownBlock] at hk), (fun k hk => by simp [Value.ownBlock] at hk), (fun k hk => by simp [newPg, Value.ownBlock] at hk), Upd.refl _ _⟩
theorem nTypeY (q b : Nat) (s : ByteArray) (w : World) (Q : Nat → World → Prop) (hq : w.cell? ⟨q, 0, none⟩ = some (.pointer (some ⟨b, 0, none⟩)))
  (HT : Hid (∀ ww, ww = w → Calls Tryz.prog 30 #[.pointer (some ⟨b, 0, none⟩), .string s] ww fun e w' => ∃ n : Nat, e = .returned (.int .i64 n) ∧ Q n w')) :
  Calls Tryz.prog 17 #[.pointer (some ⟨q, 0, none⟩), .string s] w fun e w' => ∃ n : Nat, e = .returned (.int .i64 n) ∧ Q n w' := by
 go_enter func17, ntmps17
 go_wp2_with fail
 refine Calls.mono (HT.out _ rfl) ?_
 rintro e w1 ⟨n, rfl, h1⟩
 have HQ : Hid (Q n w1) := h1
 clear h1
 go_wp2
 go_ret
 exact ⟨n, rfl, HQ.out⟩
theorem two_esc : ∀ k (hk : k < (⟨#[27, 27]⟩ : ByteArray).size), (((⟨#[27, 27]⟩ : ByteArray)[k]'hk).toNat : Int) = 27 := by
 intro k hk
 have hk2 : k < 2 := hk
 match k, hk2 with
 | 0, _ => rfl
 | 1, _ => rfl
theorem StX.firm {t0 : ByteArray} {w0 : World} {Ow : List Nat} {b r d m N : Nat} {p : Pg} {x : Hst} : Firm (StX t0 w0 Ow b r d m N p x) := by
 rintro w w' ⟨f, tv, ns, dg, h1, h2⟩ hb
 exact ⟨f, tv, ns, dg, h1, Mem.firm _ _ h2 hb⟩
theorem StX.up {t0 : ByteArray} {w0 ww : World} {Ow : List Nat} {b r d m N : Nat} {p : Pg} {x : Hst} (h : StX t0 w0 Ow b r d m N p x ww) : Upd (b :: r :: d :: m :: Ow) w0 ww := by
 obtain ⟨_, _, _, _, _, h2⟩ := h
 exact h2.up
def StU (t0 : ByteArray) (w0 : World) (Ow : List Nat) (b r d m N : Nat) (x : Hst) (ww : World) : Prop := ∃ p, StX t0 w0 Ow b r d m N p x ww ∧ p.mode = 0 ∧ p.none' = p
theorem StU.firm {t0 : ByteArray} {w0 : World} {Ow : List Nat} {b r d m N : Nat} {x : Hst} : Firm (StU t0 w0 Ow b r d m N x) := by
 rintro w w' ⟨p, h, h1, h2⟩ hb
 exact ⟨p, StX.firm _ _ h hb, h1, h2⟩
theorem StU.up {t0 : ByteArray} {w0 ww : World} {Ow : List Nat} {b r d m N : Nat} {x : Hst} (h : StU t0 w0 Ow b r d m N x ww) : Upd (b :: r :: d :: m :: Ow) w0 ww := by
 obtain ⟨_, h, _⟩ := h
 exact h.up
theorem cnt_none {p : Pg} (h : p.none' = p) : cnt p = 0 := by
 rw [← h]
 rfl
theorem uPress {t0 : ByteArray} {w0 : World} {Ow : List Nat} {b r d m : Nat} (X : Fix w0 Ow b r d m) {N : Nat} (c : UInt8) (hc : (c.toNat : Int) = 117) (hN : N ≤ 90000) (x : Hst) : ∀ ww, StU t0 w0 Ow b r d m N x ww →
  Calls Tryz.prog 38 #[.pointer (some ⟨b, 0, none⟩), .int .u8 c.toNat] ww fun e w' => e = .returned (.int .i64 (if x.2.1.length = 0 then 4 else 1)) ∧ StU t0 w0 Ow b r d m (N + 1) (wlkN (min 1 x.2.1.length) x) w' := by
 rintro ww ⟨p, ⟨f, tv, ns, dg, inv, M⟩, hm, hn⟩
 have hm1 : ¬ p.mode = 1 := by rw [hm]; decide
 have hv : p.verb = 0 := by rw [← hn]
 have hp : p.part = 0 := by rw [← hn]
 have hl := inv.n
 have hct := cnt_none hn
 refine Calls.mono (sEnd (fun O q _ y => O = (if x.2.1.length = 0 then 4 else 1) ∧ y = wlkN (min 1 x.2.1.length) x ∧ q.t = q.now ∧ q.mode = 0) X c inv hN (ns ++ [c]) qs (fun w2 M2 => by rw [hm]; exact kpN X c qo w2 M2) (fun w2 M2 => ?_) ww M) ?_
 ·have T := tkU X p f tv ns dg x N inv.g hm hv hp (inv.t hm1) inv.h qo w2 M2
  rw [← hc, hct] at T
  refine Calls.mono T ?_
  rintro e w' ⟨rfl, p2, _, h1, h2, h3, h4, h5, h6⟩
  refine ⟨(if x.2.1.length = 0 then 4 else 1, p2, f, wlkN (min 1 x.2.1.length) x), rfl, ⟨?_, h1, inv.f, h2, by rw [h3]; decide, h5, ?_, fun _ => h3, (orgT_wlkN x _).trans inv.o⟩, h6, rfl, rfl, h4, h3⟩
  ·show (if x.2.1.length = 0 then (4 : Int) else 1) = 1 ∨ (if x.2.1.length = 0 then (4 : Int) else 1) = 2 ∨ (if x.2.1.length = 0 then (4 : Int) else 1) = 4
   split <;> simp
  ·intro e
   have e2 : (if x.2.1.length = 0 then (4 : Int) else 1) = 2 := e
   split at e2 <;> simp at e2
 ·rintro e w' ⟨O, q, f2, y, bk, fo, rfl, h1, ⟨rfl, rfl, h2, h3⟩, h6, _⟩
  have hk : kpx q (wlkN (min 1 x.2.1.length) x) = wlkN (min 1 x.2.1.length) x := if_pos h2
  rw [hk] at h1
  exact ⟨rfl, _, ⟨f2, h1⟩, h3, nn_with h6⟩
theorem bType_cnt (b : Nat) (s : ByteArray) (I : Nat → Nat → World → Prop) (w : World) (h : I 0 0 w) (hs : s.size ≤ 17592186044416)
  (HK : ∀ k n, (hk : k < s.size) → ∀ ww, I k n ww → Calls Tryz.prog 38 #[.pointer (some ⟨b, 0, none⟩), .int .u8 (s[k]'hk).toNat] ww fun e w' => ∃ O : Int, e = .returned (.int .i64 O) ∧ (O = 4 → I (k + 1) (n + 1) w') ∧ (¬ O = 4 → I (k + 1) n w')) :
  Calls Tryz.prog 30 #[.pointer (some ⟨b, 0, none⟩), .string s] w fun e w' => ∃ n : Nat, e = .returned (.int .i64 n) ∧ I s.size n w' := by
 have HK' : Hid (∀ k n, (hk : k < s.size) → ∀ ww, I k n ww → Calls Tryz.prog 38 #[.pointer (some ⟨b, 0, none⟩), .int .u8 (s[k]'hk).toNat] ww fun e w' => ∃ O : Int, e = .returned (.int .i64 O) ∧ (O = 4 → I (k + 1) (n + 1) w') ∧ (¬ O = 4 → I (k + 1) n w')) := HK
 clear HK
 go_enter func30, ntmps30
 go_wp2
 go_loopw [5, 9] (fun m i wr => ∃ k n : Nat, k ≤ s.size ∧ i = .int .i64 k ∧ m = .int .i64 n ∧ n ≤ k ∧ I k n wr) (fun _ i _ => s.size - (intOf i).toNat)
 case atStart => exact ⟨0, 0, Nat.zero_le _, rfl, rfl, Nat.le_refl _, h⟩
 case round =>
  obtain ⟨k, n, hk, rfl, rfl, hnk, h1⟩ := hrel
  by_cases hlt : k < s.size
  ·have HC := HK'.out k n hlt _ h1
   go_wp2_with fail
   refine Calls.mono HC ?_
   rintro e w1 ⟨O, rfl, h2, h3⟩
   clear h1 HC
   by_cases hO : O = 4
   ·have hO' : (O == 4) = true := by simp [hO]
    have h4 := h2 hO
    clear hO h2 h3
    go_wp2
    go_roundw
    case rel => exact ⟨k + 1, n + 1, by omega, by go_num, by go_num, by omega, h4⟩
    case measure => simp [intOf] <;> omega
   ·have hO' : (O == 4) = false := by simp [hO]
    have h4 := h3 hO
    clear hO h2 h3
    go_wp2
    go_roundw
    case rel => exact ⟨k + 1, n, by omega, by go_num, rfl, by omega, h4⟩
    case measure => simp [intOf] <;> omega
  ·have hkn : k = s.size := by omega
   subst hkn
   go_wp2
   go_ret
   exact ⟨n, rfl, h1⟩
theorem oneType (q b : Nat) (c : UInt8) (w : World) (O : Int) (Q : World → Prop) (hq : w.cell? ⟨q, 0, none⟩ = some (.pointer (some ⟨b, 0, none⟩)))
  (HP : Calls Tryz.prog 38 #[.pointer (some ⟨b, 0, none⟩), .int .u8 c.toNat] w fun e w' => e = .returned (.int .i64 O) ∧ Q w') :
  Calls Tryz.prog 17 #[.pointer (some ⟨q, 0, none⟩), .string ⟨#[c]⟩] w fun e w' => e = .returned (.int .i64 (if O = 4 then 1 else 0)) ∧ Q w' := by
 refine Calls.mono (nTypeY q b ⟨#[c]⟩ w (fun n w' => n = (if O = 4 then 1 else 0) ∧ Q w') hq ?_) ?_
 ·rintro v rfl
  refine Calls.mono (bType_cnt b ⟨#[c]⟩ (fun k n ww => (k = 0 → ww = v ∧ n = 0) ∧ (k = 1 → n = (if O = 4 then 1 else 0) ∧ Q ww)) v ⟨fun _ => ⟨rfl, rfl⟩, fun h => absurd h qd⟩ (show 1 ≤ 17592186044416 by decide) ?_) ?_
  ·intro k n hk ww hI
   have hk0 : k = 0 := by
    have : (⟨#[c]⟩ : ByteArray).size = 1 := rfl
    omega
   subst hk0
   obtain ⟨rfl, rfl⟩ := hI.1 rfl
   refine Calls.mono HP ?_
   rintro e w' ⟨rfl, h1⟩
   exact ⟨O, rfl, fun h => ⟨fun h0 => absurd h0 qd, fun _ => ⟨by rw [if_pos h], h1⟩⟩, fun h => ⟨fun h0 => absurd h0 qd, fun _ => ⟨by rw [if_neg h], h1⟩⟩⟩
  ·rintro e w' ⟨n, rfl, _, h⟩
   exact ⟨n, rfl, h rfl⟩
 ·rintro e w' ⟨n, rfl, rfl, h⟩
  refine ⟨?_, h⟩
  split <;> rfl
theorem sTypes (HA : AnyOk) {t0 : ByteArray} {w0 : World} {Ow : List Nat} {b r d m : Nat} (X : Fix w0 Ow b r d m) (q N : Nat) (s : ByteArray) (hN : N + s.size ≤ 80000) (ww : World) (hq : ww.cell? ⟨q, 0, none⟩ = some (.pointer (some ⟨b, 0, none⟩))) (h : StS t0 w0 Ow b r d m N ww) :
  Calls Tryz.prog 17 #[.pointer (some ⟨q, 0, none⟩), .string s] ww fun e w' => ∃ n : Nat, e = .returned (.int .i64 n) ∧ StS t0 w0 Ow b r d m (N + s.size) w' := by
 refine nTypeY q b s ww (fun _ w' => StS t0 w0 Ow b r d m (N + s.size) w') hq ?_
 rintro v rfl
 refine Calls.mono (bType_inv b s (fun k ww' => StS t0 w0 Ow b r d m (N + k) ww') v h qo ?_) ?_
 ·intro k hk w1 hI
  refine Calls.mono (sPress HA X (s[k]'hk) qo w1 hI) ?_
  rintro e w' ⟨O, rfl, h1, _⟩
  exact ⟨O, rfl, h1⟩
 ·rintro e w' ⟨n, rfl, hn, h2⟩
  exact ⟨n, rfl, h2⟩
theorem sTypeZ (HA : AnyOk) {t0 : ByteArray} {w0 : World} {Ow : List Nat} {b r d m : Nat} (X : Fix w0 Ow b r d m) (q N : Nat) (hN : N ≤ 80000) (s : ByteArray) (hs : s.size = 2) (hc : ∀ k (hk : k < s.size), ((s[k]'hk).toNat : Int) = 27) (ww : World) (hq : ww.cell? ⟨q, 0, none⟩ = some (.pointer (some ⟨b, 0, none⟩))) (h : StS t0 w0 Ow b r d m N ww) :
  Calls Tryz.prog 17 #[.pointer (some ⟨q, 0, none⟩), .string s] ww fun e w' => ∃ n : Nat, e = .returned (.int .i64 n) ∧ ∃ x, StU t0 w0 Ow b r d m (N + 2) x w' ∧ x.2.1.length + x.2.2.length ≤ N := by
 refine nTypeY q b s ww (fun _ w' => ∃ x, StU t0 w0 Ow b r d m (N + 2) x w' ∧ x.2.1.length + x.2.2.length ≤ N) hq ?_
 rintro v rfl
 refine Calls.mono (bType_inv b s (fun k ww' => (k = 0 → StS t0 w0 Ow b r d m N ww') ∧ (0 < k → ∃ x, StU t0 w0 Ow b r d m (N + k) x ww' ∧ x.2.1.length + x.2.2.length ≤ N)) v ⟨fun _ => h, fun h => absurd h (Nat.lt_irrefl 0)⟩ qo ?_) ?_
 ·intro k hk w1 hI
  by_cases hk0 : k = 0
  ·obtain ⟨p, f, tv, ns, dg, x, inv, M⟩ := hI.1 hk0
   refine Calls.mono (sPressX HA X (s[k]'hk) qo p x w1 ⟨f, tv, ns, dg, inv, M⟩) ?_
   rintro e w' ⟨O, p2, x2, rfl, h1, h2⟩
   obtain ⟨a1, a2, a3, a4⟩ := h2 (hc k hk)
   refine ⟨O, rfl, fun h => absurd h qo, fun _ => ⟨x2, ⟨p2, by rw [hk0]; exact h1, a1, a2⟩, ?_⟩⟩
   by_cases hm : p.mode = 1
   ·have := a3 hm; have := inv.q hm; omega
   ·rw [(a4 hm).1]; exact inv.h.n
  ·obtain ⟨x, ⟨p, S, hm, hn⟩, hl⟩ := hI.2 qo
   refine Calls.mono (sPressX HA X (s[k]'hk) qo p x w1 S) ?_
   rintro e w' ⟨O, p2, x2, rfl, h1, h2⟩
   obtain ⟨a1, a2, a3, a4⟩ := h2 (hc k hk)
   refine ⟨O, rfl, fun h => absurd h qo, fun _ => ⟨x2, ⟨p2, by rw [← Nat.add_assoc]; exact h1, a1, a2⟩, ?_⟩⟩
   rw [(a4 (by rw [hm]; decide)).1]
   exact hl
 ·rintro e w' ⟨n, rfl, hn, _, h2⟩
  have := h2 qo
  rw [hs] at this
  exact ⟨n, rfl, this⟩
theorem StU.state {t0 : ByteArray} {w0 ww : World} {Ow : List Nat} {b r d m N q : Nat} {x : Hst} (h : StU t0 w0 Ow b r d m N x ww) (hq : ww.cell? ⟨q, 0, none⟩ = some (.pointer (some ⟨b, 0, none⟩))) :
  Calls Tryz.prog 18 #[.pointer (some ⟨q, 0, none⟩)] ww fun e w' => ∃ a1 a2 a3 : Int, ∃ l : Bool, e = .returned (.agg #[.string x.1, .int .i64 a1, .int .i64 a2, .int .i64 a3, .bool l]) ∧ Below ww.heap.size ww w' := by
 obtain ⟨p, ⟨f, tv, ns, dg, inv, M⟩, hm, hn⟩ := h
 have e : p.t = x.1 := (inv.t (by rw [hm]; decide)).trans inv.h.now
 have := nState q b r d tv dg p ww hq M.bd M.rd
 rw [e] at this
 refine Calls.mono this ?_
 rintro e w' ⟨rfl, hb⟩
 exact ⟨_, _, _, _, rfl, hb⟩
theorem uType {t0 : ByteArray} {w0 : World} {Ow : List Nat} {b r d m : Nat} (X : Fix w0 Ow b r d m) (q N : Nat) (hN : N ≤ 80000) (x : Hst) (ww : World) (hq : ww.cell? ⟨q, 0, none⟩ = some (.pointer (some ⟨b, 0, none⟩))) (h : StU t0 w0 Ow b r d m N x ww) :
  Calls Tryz.prog 17 #[.pointer (some ⟨q, 0, none⟩), .string ⟨#[117]⟩] ww fun e w' => e = .returned (.int .i64 (if x.2.1.length = 0 then 1 else 0)) ∧ StU t0 w0 Ow b r d m (N + 1) (wlkN (min 1 x.2.1.length) x) w' := by
 refine Calls.mono (oneType q b 117 ww _ _ hq (uPress X 117 rfl qo x ww h)) ?_
 rintro e w' ⟨rfl, h1⟩
 refine ⟨?_, h1⟩
 by_cases h0 : x.2.1.length = 0
 ·simp [h0]
 ·simp [h0]
def DelF (p : Pg) (O : Int) (p2 : Pg) (f2 : Int → Value) : Prop :=
 (O = 4 ∧ p2.t = p.t ∧ p2.pl = p.pl ∧ p2.anchor = p.anchor ∧ p2.mode = p.mode) ∨
 (O = 2 ∧ ∃ i j : Nat, i < j ∧ j ≤ p.t.size ∧ p2.t = cutS p.t i j ∧ p2.mode = 0 ∧ f2 34 = .agg #[.string (p.t.extract i j), .bool false])
structure DidL (r d m : Nat) (p : Pg) (f : Int → Value) (fn : Nat) (args : Array Value) (O : Int) (p2 : Pg) (f2 : Int → Value) : Prop where
 e : DelF p O p2 f2
 g : GoodC m p2
 gf : GoodF f2
 k : p2.now = p.now ∧ p2.back = p.back ∧ p2.forth = p.forth
 c : GivesB fn args (LA r d m p f) (LA r d m p2 f2) O [r, d, m]
theorem DidL.fn {r d m : Nat} {p : Pg} {f : Int → Value} {fn fn2 : Nat} {args args2 : Array Value} {O : Int} {p2 : Pg} {f2 : Int → Value} (h : DidL r d m p f fn args O p2 f2) (hc : GivesB fn2 args2 (LA r d m p f) (LA r d m p2 f2) O [r, d, m]) : DidL r d m p f fn2 args2 O p2 f2 := ⟨h.e, h.g, h.gf, h.k, hc⟩
theorem tkn_no (s : ByteArray) (i j : Nat) : tkn s i j false = s.extract i j := by
 unfold tkn
 apply ByteArray.ext
 simp
theorem rgW_34 (f : Int → Value) (c : Int) (t : ByteArray) (l : Bool) : rgW f c t l 34 = .agg #[.string t, .bool l] := by
 unfold rgW rgSet
 split
 ·simp
 ·simp
theorem sDoL (r d m : Nat) (p : Pg) (f : Int → Value) (i j : Nat) (hg : GoodC m p) (hf : GoodF f) (mr : m ≠ r) (md : m ≠ d) (hij : i ≤ j) (hj : j ≤ p.t.size) :
  ∃ O p2 f2, DelF p O p2 f2 ∧ GoodC m p2 ∧ GoodF f2 ∧ (p2.now = p.now ∧ p2.back = p.back ∧ p2.forth = p.forth) ∧ (p2.fnd = p.fnd ∧ p2.findC = p.findC) ∧ GivesB 146 #[.pointer (some ⟨r, 0, none⟩), .int .u8 100, .agg #[.int .i64 i, .int .i64 j, .bool false]] (LA r d m p f) (LA r d m p2 f2) O [d, m] := by
 by_cases hne : i = j
 ·subst hne
  refine ⟨4, p, f, Or.inl ⟨rfl, rfl, rfl, rfl, rfl⟩, hg, hf, ⟨rfl, rfl, rfl⟩, ⟨rfl, rfl⟩, fun ww hh => Calls.mono (mDo_nothing 100 r i ww qd) ?_⟩
  exact qt80
 ·obtain ⟨X, q, h1, h2, h3, HD⟩ := vDo_d_ex p.t i j p.pl false hg.ts hij hj
  obtain ⟨e1, e2⟩ := h3 rfl
  refine ⟨2, { p with t := X, mode := 0, anchor := 0, pl := clm X q }, rgW f p.reg (tkn p.t i j false) false, Or.inr ⟨rfl, i, j, by omega, hj, e1, rfl, ?_⟩, ⟨h1, clm_in h2, fun _ => clm_settled h2, fun _ => Nat.zero_le _, Or.inl rfl, hg.n, hg.bh, hg.fd, hg.rg⟩, hf.w _ _ _ (tkn_size hg.ts), ⟨rfl, rfl, rfl⟩, ⟨rfl, rfl⟩, fun ww hh => ?_⟩
  ·rw [rgW_34, tkn_no]
  ·refine Calls.mono (mDo_write 100 r d m p i j false X q f ww hh.1 hh.2 hg.rg mr md hg.ts h1 hij hj (fun h => hne h.1) h2 (Or.inl rfl) HD) ?_
   rintro e w' ⟨rfl, h1, h2, h3⟩
   exact ⟨rfl, ⟨h1, h2⟩, h3⟩
theorem sArriveL (r d m : Nat) (p : Pg) (f : Int → Value) (R : Int × Int × Bool) (hg : GoodC m p) (hf : GoodF f) (mr : m ≠ r) (md : m ≠ d) (rd : r ≠ d) (hv : p.verb = 100) (hR : R.2.2 = false → Takes p.t p.pl R) (hk : R.2.1 = 0) :
  ∃ O p2 f2, (p2.fnd = p.fnd ∧ p2.findC = p.findC) ∧ DidL r d m p f 166 #[.pointer (some ⟨r, 0, none⟩), .agg #[.int .i64 (wayX R), .int .i64 (wayK R)], .bool (wayZ R)] O p2 f2 := by
 have hv0 : ¬ p.verb = 0 := by omega
 cases hz : R.2.2 with
 | true =>
  have e3 : wayZ R = false := by simp [wayZ, hz]
  refine ⟨4, p, f, ⟨rfl, rfl⟩, Or.inl ⟨rfl, rfl, rfl, rfl, rfl⟩, hg, hf, ⟨rfl, rfl, rfl⟩, ?_⟩
  rw [e3]
  exact fun ww hh => mArrive_fail r (wayX R) (wayK R) (LA r d m p f) [r, d, m] ww hh LA.firm
 | false =>
  obtain ⟨q, hq1, hq2, _⟩ := hR hz
  have e1 : wayX R = q := by simp [wayX, hz, hq1]
  have e2 : wayK R = 0 := by simp [wayK, hz, hk]
  have e3 : wayZ R = true := by simp [wayZ, hz]
  have hpl := hg.pl
  have HK : ∀ ww, qC 203 #[.agg #[.string p.t, .int .i64 (p.pl), .int .i64 (cnt p), .bool (p.verb != 0), .bool (p.verb == 99)], .agg #[.int .i64 q, .int .i64 0]] ww (.agg #[.int .i64 ((min p.pl q : Nat) : Int), .int .i64 ((max p.pl q : Nat) : Int), .bool false]) := by
   intro ww
   have := sTaken_out p.t p.pl (cnt p) q (p.verb != 0) (p.verb == 99) ww
   rw [show min (p.pl : Int) q = ((min p.pl q : Nat) : Int) by omega, show max (p.pl : Int) q = ((max p.pl q : Nat) : Int) by omega] at this
   exact this
  obtain ⟨O, p2, f2, h1, h2, h3, h4, hfn, h7⟩ := sDoL r d m p f (min p.pl q) (max p.pl q) hg hf mr md qo qo
  refine ⟨O, p2, f2, hfn, h1, h2, h3, h4, fun ww hh => ?_⟩
  rw [e1, e2, e3]
  refine Calls.mono (mArrive_verb r d p q 0 O _ _ false (LA r d m p f) (LA r d m p2 f2) [d, m] ww hh LA.firm LA.firm (fun _ h => h.1) (by simp [rd, mr.symm]) (tl_of hh) hg.n hg.bh hv0 HK (by rw [hv]; exact h7)) ?_
  rintro e w' ⟨h0, h1, h2⟩
  exact ⟨h0, h1, h2.mono qi⟩
theorem lTakeW (HA : AnyOk) (r d m : Nat) (p : Pg) (f : Int → Value) (key : Int) (hg : GoodC m p) (hf : GoodF f) (mr : m ≠ r) (md : m ≠ d) (rd : r ≠ d) (hm : p.mode = 0) (hv : p.verb = 100) (hp : p.part = 0) (hd : isD p.behind key = false) (hk : key = 104 ∨ key = 98 ∨ key = 48) :
  ∃ O p2 f2, DidL r d m p f 137 #[.agg #[.pointer (some ⟨r, 0, none⟩)], .int .u8 key] O p2 f2 := by
 have hm1 : ¬ p.mode = 1 := by rw [hm]; decide
 have hc := cnt_le hg.n hg.bh
 have hv0 : ¬ p.verb = 0 := by omega
 have hpw : isPlainWay key = true := by rcases hk with h | h | h <;> subst h <;> decide
 have hk1 : isFind key = false := by rcases hk with h | h | h <;> subst h <;> decide
 have h := fun ww => sGo_wayV p.t p.pl (cnt p) key 0 false ww hg.ts hg.pl hc hpw (HA p.t p.pl hg.ts hg.pl)
 have hR := goWay_takes (s := p.t) (p := p.pl) (n := max (cnt p) 1) key 0 (decide (0 < cnt p)) false hg.pl (hg.st hm1) qo
 have hkd : (goWay p.t p.pl key 0 (max (cnt p) 1) (decide (0 < cnt p)) true false).2.1 = 0 := by
  rcases hk with h | h | h <;> subst h <;> rfl
 generalize goWay p.t p.pl key 0 (max (cnt p) 1) (decide (0 < cnt p)) true false = R at h hR hkd
 obtain ⟨O, p2, f2, _, D⟩ := sArriveL r d m p f R hg hf mr md rd hv hR hkd
 have e1 : (p.verb != 0) = true := by simp [hv]
 have e2 : (p.verb == 99) = false := by simp [hv]
 refine ⟨O, p2, f2, D.fn (fun ww hh => mTake_behind r d p key O (LA r d m p f) (LA r d m p2 f2) [r, d, m] ww hh LA.firm LA.firm (fun _ h => h.1) hp hv0 hd (fun w2 h2 => mBehind_way r d p key O (LA r d m p f) (LA r d m p2 f2) [r, d, m] w2 h2 LA.firm LA.firm (fun _ h => h.1) qo qo qo (fun w3 h3 => mWay_goB r d p key (wayX R) (wayK R) O (wayZ R) _ _ [r, d, m] w3 h3 LA.firm LA.firm (fun _ h => h.1) hg.n hg.bh hk1 qo qo qo (by rw [e1, e2]; exact h) D.c)))⟩
theorem lTakeF (r d m : Nat) (p : Pg) (f : Int → Value) (key : Int) (hg : GoodC m p) (hf : GoodF f) (mr : m ≠ r) (md : m ≠ d) (rd : r ≠ d) (hm : p.mode = 0) (hv : p.verb = 100) (hp : p.part = 70) :
  ∃ O p2 f2, DidL r d m p f 137 #[.agg #[.pointer (some ⟨r, 0, none⟩)], .int .u8 key] O p2 f2 := by
 have hm1 : ¬ p.mode = 1 := by rw [hm]; decide
 have hc := cnt_le hg.n hg.bh
 have hp1 : isFind p.part = true := by rw [hp]; decide
 have hg1 := hg.find key hp1
 have h := fun ww => sFind_goV p.t p.pl (cnt p) p.part key (decide (0 < cnt p)) ww hg.ts hg.pl hc hp1
 have hR := goWay_takes (s := p.t) (p := p.pl) (n := max (cnt p) 1) p.part key (decide (0 < cnt p)) false hg.pl (hg.st hm1) qo
 have hkd : (goWay p.t p.pl p.part key (max (cnt p) 1) (decide (0 < cnt p)) true false).2.1 = 0 := by
  rw [hp]
  show (resD 0 _).2.1 = 0
  unfold resD
  split <;> rfl
 generalize goWay p.t p.pl p.part key (max (cnt p) 1) (decide (0 < cnt p)) true false = R at h hR hkd
 obtain ⟨O, p2, f2, hfn, D⟩ := sArriveL r d m { p with fnd := p.part, findC := key } f R hg1 hf mr md rd hv hR hkd
 have e1 : (p.verb != 0) = true := by simp [hv]
 have e2 : (p.verb == 99) = false := by simp [hv]
 refine ⟨O, p2, f2, D.e, D.g, D.gf, D.k, fun ww hh => mTake_partB r d p key O (LA r d m p f) (LA r d m p2 f2) [r, d, m] ww hh LA.firm LA.firm (fun _ h => h.1) qo (fun w2 h2 => mNComplete_any r d p key O (LA r d m p f) (LA r d m p2 f2) [r, d, m] w2 h2 LA.firm LA.firm (fun _ h => h.1) qo qo (fun w3 h3 => mComplete_findB r d p key (wayX R) (wayK R) O (wayZ R) (LA r d m p f) (LA r d m { p with fnd := p.part, findC := key } f) _ [r, d, m] w3 h3 LA.firm LA.firm LA.firm (fun _ h => h.1) (fun _ h => h.1) (LA.find hfn) qi hg.n hg.bh hp1 (fun w2 h2 => ⟨(h2.1.set_fnd p.part).set_findC key, (h2.2.other md _).other md _⟩) (by rw [e1, e2]; exact h) D.c))⟩
theorem lTakeO (r d m : Nat) (p : Pg) (f : Int → Value) (hg : GoodC m p) (hf : GoodF f) (mr : m ≠ r) (md : m ≠ d) (rd : r ≠ d) (hv : p.verb = 100) (hp : p.part = 105) :
  ∃ O p2 f2, DidL r d m p f 137 #[.agg #[.pointer (some ⟨r, 0, none⟩)], .int .u8 119] O p2 f2 := by
 have hv0 : ¬ p.verb = 0 := by omega
 have hrT : r ∉ [d, m] := by simp [rd, mr.symm]
 obtain ⟨i, j, is, hij, hj, HW⟩ := oWordL p.t p.pl (p.part == 97) false hg.ts hg.pl
 have HF : qH 171 #[.int .u8 119, .agg #[.string p.t, .int .i64 p.pl, .bool (p.part == 97)]] (.tuple #[.agg #[.int .i64 i, .int .i64 j, .bool false], .bool is]) := fun ww => oFind_w p.t p.pl 119 i j (p.part == 97) false is ww (Or.inl rfl) HW
 have done : ∀ O p2 f2, DelF p O p2 f2 → GoodC m p2 → GoodF f2 → (p2.now = p.now ∧ p2.back = p.back ∧ p2.forth = p.forth) → GivesB 170 #[.pointer (some ⟨r, 0, none⟩), .agg #[.int .i64 i, .int .i64 j, .bool false], .bool is] (LA r d m p f) (LA r d m p2 f2) O [d, m] → ∃ O p2 f2, DidL r d m p f 137 #[.agg #[.pointer (some ⟨r, 0, none⟩)], .int .u8 119] O p2 f2 := by
  intro O p2 f2 h1 h2 h3 h4 h7
  exact ⟨O, p2, f2, h1, h2, h3, h4, fun ww hh => mTake_partB r d p 119 O (LA r d m p f) (LA r d m p2 f2) [r, d, m] ww hh LA.firm LA.firm (fun _ h => h.1) qo (fun w2 h2 => mNComplete_any r d p 119 O (LA r d m p f) (LA r d m p2 f2) [r, d, m] w2 h2 LA.firm LA.firm (fun _ h => h.1) qo qo (GivesB.more (fun ww hh => mComplete_obj r d p 119 O i j false is (LA r d m p f) (LA r d m p2 f2) [d, m] ww hh LA.firm LA.firm (fun _ h => h.1) hrT (Or.inl hp) HF h7)))⟩
 cases is with
 | false =>
  refine done 4 p f (Or.inl ⟨rfl, rfl, rfl, rfl, rfl⟩) hg hf ⟨rfl, rfl, rfl⟩ (fun ww hh => Calls.mono (mGrasp_fail r i j false ww) ?_)
  exact qt80
 | true =>
  obtain ⟨O, p2, f2, h1, h2, h3, h4, _, h7⟩ := sDoL r d m p f i j hg hf mr md hij hj
  exact done O p2 f2 h1 h2 h3 h4 (fun ww hh => mGrasp_verb r d p O i j false (LA r d m p f) (LA r d m p2 f2) [d, m] ww hh LA.firm LA.firm (fun _ h => h.1) hrT (tl_of hh) hv0 (by rw [hv]; exact h7))
theorem lMore (HA : AnyOk) {t0 : ByteArray} {w0 : World} {Ow : List Nat} {b r d m : Nat} (X : Fix w0 Ow b r d m) {N : Nat} (c : UInt8) (hN : N ≤ 90000) (p p2 : Pg) (f : Int → Value) (x : Hst) (hm : p.mode = 0) (hk : okK p (c.toNat : Int)) (hn : nxt p (c.toNat : Int) = some p2) : ∀ ww, StF t0 w0 Ow b r d m N p f x ww →
  Calls Tryz.prog 38 #[.pointer (some ⟨b, 0, none⟩), .int .u8 c.toNat] ww fun e w' => e = .returned (.int .i64 0) ∧ StF t0 w0 Ow b r d m (N + 1) p2 f x w' := by
 rintro ww ⟨tv, ns, dg, inv, M⟩
 have hm1 : ¬ p.mode = 1 := by rw [hm]; decide
 have hl := inv.n
 have hr : runK bg0 ns = some (bg p) := by
  rcases inv.y with h | h | h
  ·exact h.2
  ·exact absurd h.1 hm1
  ·have := h.1; omega
 rcases tkN HA X p f tv ns dg x c inv.g inv.b inv.f hm hk.1 hk.2 with ⟨p3, h1, h2, h3, h4, h5⟩ | ⟨h1, _⟩
 ·have e0 : p3 = p2 := by rw [hn] at h1; injection h1 with h1; exact h1.symm
  subst e0
  obtain ⟨a1, a2, a3, a4, a5, e⟩ := h4
  have e1 : p3.mode = p.mode := by rw [e]
  have e2 : p3.t = p.t := by rw [e]
  have e3 : p3.now = p.now := by rw [e]
  refine Calls.mono (press_go b r d p c.toNat (Mem w0 Ow b r d m p f tv ns dg x) (Mem w0 Ow b r d m p3 f tv ns dg x) (fun w' => ∃ tv', Mem w0 Ow b r d m p3 f tv' (ns ++ [c]) dg x w') ww M (fun _ h => ⟨⟨_, _, h.bd⟩, h.rd⟩) (fun _ h => ⟨_, _, h.bd⟩) h5.out (fun w2 M2 => by rw [hm]; exact kpN X c qo w2 M2)) ?_
  rintro e w' ⟨rfl, tv', h⟩
  exact ⟨rfl, tv', ns ++ [c], dg, inv.more h2 h3 inv.f e3 qs (fun _ => by rw [e2, e3]; exact inv.t hm1) (Or.inl ⟨e1.trans hm, by rw [runK_add, hr]; show nxt (bg p) (c.toNat : Int) = _; rw [nxt_bg, h1]; rfl⟩), h⟩
 ·rw [hn] at h1; cases h1
def LdP (t0 : ByteArray) (w0 : World) (Ow : List Nat) (b r d m N : Nat) (p : Pg) (x : Hst) (O : Int) (ww : World) : Prop :=
 ∃ (q : Pg) (f2 : Int → Value) (bk fo : Value), StF t0 w0 Ow b r d m N { q with now := q.t, back := bk, forth := fo } f2 (kpx q x) ww ∧ DelF p O q f2 ∧ q.none' = q ∧ q.now = p.now
theorem lLast {t0 : ByteArray} {w0 : World} {Ow : List Nat} {b r d m : Nat} (X : Fix w0 Ow b r d m) {N : Nat} (c : UInt8) (hN : N ≤ 90000) (p : Pg) (f : Int → Value) (x : Hst) (hm : p.mode = 0) (hk : okK p (c.toNat : Int)) (hn : nxt p (c.toNat : Int) = none) (hv : p.verb = 100)
  (HD : GoodC m p → GoodF f → ∃ O p2 f2, DidL r d m p f 137 #[.agg #[.pointer (some ⟨r, 0, none⟩)], .int .u8 c.toNat] O p2 f2) : ∀ ww, StF t0 w0 Ow b r d m N p f x ww →
  Calls Tryz.prog 38 #[.pointer (some ⟨b, 0, none⟩), .int .u8 c.toNat] ww fun e w' => ∃ O : Int, e = .returned (.int .i64 O) ∧ LdP t0 w0 Ow b r d m (N + 1) p x O w' := by
 rintro ww ⟨tv, ns, dg, inv, M⟩
 have hm1 : ¬ p.mode = 1 := by rw [hm]; decide
 have hl := inv.n
 have hr : runK bg0 ns = some (bg p) := by
  rcases inv.y with h | h | h
  ·exact h.2
  ·exact absurd h.1 hm1
  ·have := h.1; omega
 have hi : ¬ insK p (c.toNat : Int) := by
  unfold insK
  rintro (h | h)
  ·omega
  ·have := h.1; omega
 have L := X.ly
 have hbT : b ∉ [r, d, m] := by simp [L.br, L.bd, L.mb.symm]
 obtain ⟨O, p2, f2, D⟩ := HD inv.g inv.f
 have hO : O = 4 ∨ O = 2 := by
  rcases D.e with h | h
  ·exact Or.inl h.1
  ·exact Or.inr h.1
 have hm2 : p2.mode = 0 := by
  rcases D.e with h | ⟨_, _, _, _, _, _, h, _⟩
  ·exact h.2.2.2.2.trans hm
  ·exact h
 refine Calls.mono (sEnd (fun O' q f' y => O' = O ∧ y = x ∧ DelF p O q f' ∧ q.now = p.now) X c inv hN (ns ++ [c]) qs (fun w2 M2 => by rw [hm]; exact kpN X c qo w2 M2) (fun w2 M2 => ?_) ww M) ?_
 ·refine Calls.mono (bTake_normal_doneB b r d tv dg p c.toNat O (LA r d m p2.none' f2) (LA r d m p f) (LA r d m p2 f2) [r, d, m] w2 M2.bd M2.la LA.firm LA.firm (fun _ h => h.1) hm hk.1 hbT qo qo LA.firm (fun _ h => ⟨p2, h.1⟩) (LA.forget p2 f2 L.mr) D.c) ?_
  rintro e w' ⟨rfl, a, u⟩
  refine ⟨(O, p2.none', f2, x), rfl, ⟨?_, D.g.forget, D.gf, rfl, ?_, inv.h.of D.k.1, fun e _ => do_normal hr hk hn hi, fun e => absurd e hk.1, inv.o⟩, M2.step X a u qi D.k.2.1 D.k.2.2, rfl, rfl, D.e, D.k.1⟩
  ·show O = 1 ∨ O = 2 ∨ O = 4
   omega
  ·show ¬ p2.mode = 1
   omega
 ·rintro e w' ⟨O', q, f', y, bk, fo, rfl, h1, ⟨rfl, rfl, h2, h3⟩, h6, _⟩
  exact ⟨O', rfl, q, f', bk, fo, h1, h2, h6, h3⟩
theorem lSeq (HA : AnyOk) {t0 : ByteArray} {w0 : World} {Ow : List Nat} {b r d m : Nat} (X : Fix w0 Ow b r d m) (q N : Nat) (hN : N ≤ 80000) (s : ByteArray) (K : Nat) (hs : s.size = K + 1) (hK : K ≤ 10) (ps : Nat → Pg) (f : Int → Value) (x : Hst)
  (hm : ∀ k (hk : k < s.size), k < K → (ps k).mode = 0 ∧ okK (ps k) ((s[k]'hk).toNat : Int) ∧ nxt (ps k) ((s[k]'hk).toNat : Int) = some (ps (k + 1)))
  (HL : ∀ (hk : K < s.size) ww, StF t0 w0 Ow b r d m (N + K) (ps K) f x ww → Calls Tryz.prog 38 #[.pointer (some ⟨b, 0, none⟩), .int .u8 (s[K]'hk).toNat] ww fun e w' => ∃ O : Int, e = .returned (.int .i64 O) ∧ LdP t0 w0 Ow b r d m (N + K + 1) (ps K) x O w')
  (ww : World) (hq : ww.cell? ⟨q, 0, none⟩ = some (.pointer (some ⟨b, 0, none⟩))) (h : StF t0 w0 Ow b r d m N (ps 0) f x ww) :
  Calls Tryz.prog 17 #[.pointer (some ⟨q, 0, none⟩), .string s] ww fun e w' => ∃ n : Nat, e = .returned (.int .i64 n) ∧ ∃ O : Int, LdP t0 w0 Ow b r d m (N + K + 1) (ps K) x O w' ∧ n = (if O = 4 then 1 else 0) := by
 refine nTypeY q b s ww (fun n w' => ∃ O : Int, LdP t0 w0 Ow b r d m (N + K + 1) (ps K) x O w' ∧ n = (if O = 4 then 1 else 0)) hq ?_
 rintro v rfl
 refine Calls.mono (bType_cnt b s (fun k n ww => (k ≤ K → n = 0 ∧ StF t0 w0 Ow b r d m (N + k) (ps k) f x ww) ∧ (k = K + 1 → ∃ O : Int, LdP t0 w0 Ow b r d m (N + K + 1) (ps K) x O ww ∧ n = (if O = 4 then 1 else 0))) v ⟨fun _ => ⟨rfl, h⟩, fun h => absurd h qo⟩ qo ?_) ?_
 ·intro k n hk ww hI
  obtain ⟨rfl, S⟩ := hI.1 qo
  by_cases hlt : k < K
  ·obtain ⟨a1, a2, a3⟩ := hm k hk hlt
   refine Calls.mono (lMore HA X (s[k]'hk) qo (ps k) (ps (k + 1)) f x a1 a2 a3 ww S) ?_
   rintro e w' ⟨rfl, S2⟩
   exact ⟨0, rfl, fun h => absurd h qd, fun _ => ⟨fun _ => ⟨rfl, S2⟩, fun h => absurd h qo⟩⟩
  ·have hkK : k = K := by omega
   subst hkK
   refine Calls.mono (HL hk ww S) ?_
   rintro e w' ⟨O, rfl, L⟩
   exact ⟨O, rfl, fun h => ⟨fun h0 => absurd h0 qo, fun _ => ⟨O, L, by rw [if_pos h]⟩⟩, fun h => ⟨fun h0 => absurd h0 qo, fun _ => ⟨O, L, by rw [if_neg h]⟩⟩⟩
 ·rintro e w' ⟨n, rfl, _, h⟩
  obtain ⟨O, L, e⟩ := h hs
  exact ⟨n, rfl, O, L, e⟩
def lWs : Nat → ByteArray
 | 0 => ⟨#[104]⟩
 | 1 => ⟨#[105, 119]⟩
 | 2 => ⟨#[98]⟩
 | 3 => ⟨#[48]⟩
 | 4 => ⟨#[50, 104]⟩
 | _ => ⟨#[70, 32]⟩
theorem DelF.of {p p' : Pg} {O : Int} {q : Pg} {f2 : Int → Value} (h : DelF p O q f2) (e1 : p.t = p'.t) (e2 : p.pl = p'.pl) (e3 : p.anchor = p'.anchor) (e4 : p.mode = p'.mode) : DelF p' O q f2 := by
 unfold DelF at *
 rw [e1, e2, e3, e4] at h
 exact h
theorem LdP.of {t0 : ByteArray} {w0 : World} {Ow : List Nat} {b r d m N : Nat} {p p' : Pg} {x : Hst} {O : Int} {ww : World} (h : LdP t0 w0 Ow b r d m N p x O ww) (e1 : p.t = p'.t) (e2 : p.pl = p'.pl) (e3 : p.anchor = p'.anchor) (e4 : p.mode = p'.mode) (e5 : p.now = p'.now) : LdP t0 w0 Ow b r d m N p' x O ww := by
 obtain ⟨q, f2, bk, fo, h1, h2, h3, h4⟩ := h
 exact ⟨q, f2, bk, fo, h1, h2.of e1 e2 e3 e4, h3, h4.trans e5⟩
theorem lTyped (HA : AnyOk) {t0 : ByteArray} {w0 : World} {Ow : List Nat} {b r d m : Nat} (X : Fix w0 Ow b r d m) (q N : Nat) (hN : N ≤ 70000) (j : Nat) (p : Pg) (f : Int → Value) (x : Hst) (hm : p.mode = 0) (hn : p.none' = p) (ww : World) (hq : ww.cell? ⟨q, 0, none⟩ = some (.pointer (some ⟨b, 0, none⟩))) (h : StF t0 w0 Ow b r d m N p f x ww) (hj : j < 6) :
  Calls Tryz.prog 17 #[.pointer (some ⟨q, 0, none⟩), .string (⟨#[100]⟩ ++ lWs j)] ww fun e w' => ∃ n : Nat, e = .returned (.int .i64 n) ∧ ∃ (O : Int) (N2 : Nat), N2 ≤ N + 3 ∧ LdP t0 w0 Ow b r d m N2 p x O w' ∧ n = (if O = 4 then 1 else 0) := by
 have L := X.ly
 have e1 : p.reg = 0 := by rw [← hn]
 have e2 : p.n = 0 := by rw [← hn]
 have e3 : p.verb = 0 := by rw [← hn]
 have e4 : p.behind = 0 := by rw [← hn]
 have e5 : p.part = 0 := by rw [← hn]
 have n1 : nxt p 100 = some { p with verb := 100 } := by
  unfold nxt nxtC isD
  rw [if_neg (fun h => h e5), if_pos e3]
  simp
 have ok1 : okK p 100 := ⟨by decide, fun _ _ => ⟨by decide, by decide, by decide⟩⟩
 have fin : ∀ (s : ByteArray) (K : Nat) (ps : Nat → Pg), K ≤ 2 → s.size = K + 1 → ps 0 = p → (∀ k (hk : k < s.size), k < K → (ps k).mode = 0 ∧ okK (ps k) ((s[k]'hk).toNat : Int) ∧ nxt (ps k) ((s[k]'hk).toNat : Int) = some (ps (k + 1))) → ((ps K).t = p.t ∧ (ps K).pl = p.pl ∧ (ps K).anchor = p.anchor ∧ (ps K).mode = p.mode ∧ (ps K).now = p.now) → (∀ (hk : K < s.size), okK (ps K) ((s[K]'hk).toNat : Int) ∧ nxt (ps K) ((s[K]'hk).toNat : Int) = none ∧ (ps K).verb = 100 ∧ (GoodC m (ps K) → GoodF f → ∃ O p2 f2, DidL r d m (ps K) f 137 #[.agg #[.pointer (some ⟨r, 0, none⟩)], .int .u8 ((s[K]'hk).toNat : Int)] O p2 f2)) →
   Calls Tryz.prog 17 #[.pointer (some ⟨q, 0, none⟩), .string s] ww fun e w' => ∃ n : Nat, e = .returned (.int .i64 n) ∧ ∃ (O : Int) (N2 : Nat), N2 ≤ N + 3 ∧ LdP t0 w0 Ow b r d m N2 p x O w' ∧ n = (if O = 4 then 1 else 0) := by
  intro s K ps hK hs h0 hmo hpk hl
  refine Calls.mono (lSeq HA X q N qo s K hs qo ps f x hmo (fun hk w2 S2 => ?_) ww hq (by rw [h0]; exact h)) ?_
  ·obtain ⟨a1, a2, a3, a4⟩ := hl hk
   exact lLast X (s[K]'hk) qo (ps K) f x (hpk.2.2.2.1.trans hm) a1 a2 a3 a4 w2 S2
  ·rintro e w' ⟨n, rfl, O, hL, hO⟩
   exact ⟨n, rfl, O, N + K + 1, by omega, hL.of hpk.1 hpk.2.1 hpk.2.2.1 hpk.2.2.2.1 hpk.2.2.2.2, hO⟩
 have okv : ∀ (p' : Pg) (c : Int), p'.verb = 100 → ¬ c = 27 → okK p' c := fun p' c hv hc => ⟨hc, fun h => by omega⟩
 have two : ∀ (c : UInt8), (c.toNat : Int) = 104 ∨ (c.toNat : Int) = 98 ∨ (c.toNat : Int) = 48 → Calls Tryz.prog 17 #[.pointer (some ⟨q, 0, none⟩), .string ⟨#[100, c]⟩] ww fun e w' => ∃ n : Nat, e = .returned (.int .i64 n) ∧ ∃ (O : Int) (N2 : Nat), N2 ≤ N + 3 ∧ LdP t0 w0 Ow b r d m N2 p x O w' ∧ n = (if O = 4 then 1 else 0) := by
  intro c hc
  refine fin ⟨#[100, c]⟩ 1 (fun k => if k = 0 then p else { p with verb := 100 }) qo rfl rfl ?_ ⟨rfl, rfl, rfl, rfl, rfl⟩ ?_
  ·intro k hk hk1
   have : k = 0 := by omega
   subst this
   exact ⟨hm, ok1, n1⟩
  ·intro hk
   show okK { p with verb := 100 } (c.toNat : Int) ∧ nxt { p with verb := 100 } (c.toNat : Int) = none ∧ (100 : Int) = 100 ∧ (GoodC m { p with verb := 100 } → GoodF f → ∃ O p2 f2, DidL r d m { p with verb := 100 } f 137 #[.agg #[.pointer (some ⟨r, 0, none⟩)], .int .u8 (c.toNat : Int)] O p2 f2)
   have hd : isD p.behind (c.toNat : Int) = false := by
    unfold isD
    rw [e4]
    rcases hc with h | h | h <;> rw [h] <;> rfl
   refine ⟨okv _ _ rfl qo, ?_, rfl, fun g gf => lTakeW HA r d m { p with verb := 100 } f c.toNat g gf L.mr L.md X.rd hm rfl e5 hd hc⟩
   unfold nxt
   rw [if_neg (fun h => h e5), if_neg (by show ¬ (100 : Int) = 0; decide)]
   show (if isD p.behind (c.toNat : Int) = true then _ else nxtB { p with verb := 100 } (c.toNat : Int)) = none
   rw [hd, if_neg qd]
   unfold nxtB
   rcases hc with h | h | h <;> rw [h] <;> rfl
 have three : ∀ (a c : UInt8) (p2 : Pg), nxt { p with verb := 100 } (a.toNat : Int) = some p2 → ¬ (a.toNat : Int) = 27 → ¬ (c.toNat : Int) = 27 → p2.t = p.t ∧ p2.pl = p.pl ∧ p2.anchor = p.anchor ∧ p2.mode = p.mode ∧ p2.now = p.now → p2.verb = 100 → nxt p2 (c.toNat : Int) = none → (GoodC m p2 → GoodF f → ∃ O p3 f2, DidL r d m p2 f 137 #[.agg #[.pointer (some ⟨r, 0, none⟩)], .int .u8 (c.toNat : Int)] O p3 f2) → Calls Tryz.prog 17 #[.pointer (some ⟨q, 0, none⟩), .string ⟨#[100, a, c]⟩] ww fun e w' => ∃ n : Nat, e = .returned (.int .i64 n) ∧ ∃ (O : Int) (N2 : Nat), N2 ≤ N + 3 ∧ LdP t0 w0 Ow b r d m N2 p x O w' ∧ n = (if O = 4 then 1 else 0) := by
  intro a c p2 hna ha hc he hv hnc hD
  refine fin ⟨#[100, a, c]⟩ 2 (fun k => if k = 0 then p else if k = 1 then { p with verb := 100 } else p2) qo rfl rfl ?_ he ?_
  ·intro k hk hk1
   have : k = 0 ∨ k = 1 := by omega
   rcases this with h | h
   ·subst h; exact ⟨hm, ok1, n1⟩
   ·subst h; exact ⟨hm, okv _ _ rfl ha, hna⟩
  ·intro hk
   exact ⟨okv p2 _ hv hc, hnc, hv, hD⟩
 have nB : ∀ c : Int, nxt { p with verb := 100 } c = if isD 0 c = true then some { p with verb := 100, behind := nextN 0 c } else nxtB { p with verb := 100 } c := by
  intro c
  unfold nxt
  rw [if_neg (fun h => h e5), if_neg (by show ¬ (100 : Int) = 0; decide)]
  show (if isD p.behind c = true then some { p with verb := 100, behind := nextN p.behind c } else _) = _
  rw [e4]
 match j, hj with
 | 0, _ => exact two 104 (Or.inl rfl)
 | 1, _ =>
  exact three 105 119 { p with verb := 100, part := 105 } (by rw [nB]; rfl) qd qd ⟨rfl, rfl, rfl, rfl, rfl⟩ rfl (by unfold nxt; rw [if_pos (by show ¬ (105 : Int) = 0; decide)]; rfl) (fun g gf => lTakeO r d m { p with verb := 100, part := 105 } f g gf L.mr L.md X.rd rfl rfl)
 | 2, _ => exact two 98 (Or.inr (Or.inl rfl))
 | 3, _ => exact two 48 (Or.inr (Or.inr rfl))
 | 4, _ =>
  exact three 50 104 { p with verb := 100, behind := 2 } (by rw [nB]; rfl) qd qd ⟨rfl, rfl, rfl, rfl, rfl⟩ rfl (by unfold nxt; rw [if_neg (fun h => h e5), if_neg (by show ¬ (100 : Int) = 0; decide)]; rfl) (fun g gf => lTakeW HA r d m { p with verb := 100, behind := 2 } f 104 g gf L.mr L.md X.rd hm rfl e5 rfl (Or.inl rfl))
 | 5, _ =>
  exact three 70 32 { p with verb := 100, part := 70 } (by rw [nB]; rfl) qd qd ⟨rfl, rfl, rfl, rfl, rfl⟩ rfl (by unfold nxt; rw [if_pos (by show ¬ (70 : Int) = 0; decide)]; rfl) (fun g gf => lTakeF r d m { p with verb := 100, part := 70 } f 32 g gf L.mr L.md X.rd hm rfl rfl)
theorem kPick (c : Int) (n : Nat) (w : World) (h1 : -9223372036854775808 ≤ c) (h2 : c ≤ 9223372036854775807) (hn : 0 < n) (hn2 : n ≤ 1000) :
  ∃ k : Nat, k < n ∧ ∀ ww, qC 22 #[.int .i64 c, .int .i64 (n : Nat)] ww (.int .i64 (k : Nat)) := by
 by_cases hc : c < 0
 ·refine ⟨(-(c + 1)).toNat % n, Nat.mod_lt _ hn, fun w => ?_⟩
  have hm : ((((-(c + 1)).toNat % n : Nat) : Int)) = -((c + 1).tmod (n : Int)) := by
   rw [← Int.neg_tmod, Int.natCast_emod, Int.toNat_of_nonneg qo, Int.tmod_eq_emod_of_nonneg qo]
  have w1 : IntKind.i64.wrap (c + 1) = c + 1 := by unfold IntKind.wrap; simp [IntKind.bits, IntKind.signed]; omega
  have w2 : IntKind.i64.wrap (-(c + 1)) = -(c + 1) := by unfold IntKind.wrap; simp [IntKind.bits, IntKind.signed]; omega
  have hn0 : ((n : Nat) : Int) ≠ 0 := by omega
  rw [hm]
  go_enter func22, ntmps22
  go_wp2
  go_ret
  exact ⟨rfl, Below.refl _ _⟩
 ·refine ⟨c.toNat % n, Nat.mod_lt _ hn, fun w => ?_⟩
  have hm : (((c.toNat % n : Nat) : Int)) = c % (n : Int) := by
   rw [Int.natCast_emod, Int.toNat_of_nonneg qo]
  have hn0 : ((n : Nat) : Int) ≠ 0 := by omega
  rw [hm]
  go_enter func22, ntmps22
  go_wp2
  go_ret
  exact ⟨rfl, Below.refl _ _⟩
theorem StF.firm {t0 : ByteArray} {w0 : World} {Ow : List Nat} {b r d m N : Nat} {p : Pg} {f : Int → Value} {x : Hst} : Firm (StF t0 w0 Ow b r d m N p f x) := by
 rintro w w' ⟨tv, ns, dg, h1, h2⟩ hb
 exact ⟨tv, ns, dg, h1, Mem.firm _ _ h2 hb⟩
theorem StF.up {t0 : ByteArray} {w0 ww : World} {Ow : List Nat} {b r d m N : Nat} {p : Pg} {f : Int → Value} {x : Hst} (h : StF t0 w0 Ow b r d m N p f x ww) : Upd (b :: r :: d :: m :: Ow) w0 ww := by
 obtain ⟨_, _, _, _, h2⟩ := h
 exact h2.up
theorem StF.rebase {t0 : ByteArray} {w0 ww v : World} {Ow : List Nat} {b r d m N : Nat} {p : Pg} {f : Int → Value} {x : Hst} (X : Fix w0 Ow b r d m) (h : StF t0 w0 Ow b r d m N p f x ww) (hb : Below ww.heap.size ww v) :
  ∃ O2, (∀ k, k ∈ O2 → k < ww.heap.size ∧ Free w0 Ow b r d m k) ∧ Fix v O2 b r d m ∧ StF t0 v O2 b r d m N p f x v := by
 obtain ⟨tv, ns, dg, inv, M⟩ := h
 have M2 := Mem.firm _ _ M hb
 have z0 := M.up.size
 have z1 := hb.size
 have mem : ∀ k, k ∈ own tv ++ (own p.back ++ own p.forth) → k < ww.heap.size ∧ Free w0 Ow b r d m k := by
  intro k hk
  rcases List.mem_append.1 hk with h | h
  ·exact ⟨(M.ty.lt k (mem_own.1 h)).2, M.tl k (mem_own.1 h)⟩
  ·rcases List.mem_append.1 h with h | h
   ·exact ⟨(M.bk.lt k (mem_own.1 h)).2, M.bl k (mem_own.1 h)⟩
   ·exact ⟨(M.fo.lt k (mem_own.1 h)).2, M.fl k (mem_own.1 h)⟩
 refine ⟨own tv ++ (own p.back ++ own p.forth), mem, ⟨X.ly, X.rd, ?_, ?_, ?_, ?_, fun k hk => (mem k hk).2.1⟩, tv, ns, dg, inv, ⟨M2.bd, M2.rd, M2.rg, M2.ty, M2.bk, M2.fo, ?_, ?_, ?_, M2.tb, M2.tf, M2.bf, Upd.refl _ _⟩⟩
 ·have := X.lb; omega
 ·have := X.lr; omega
 ·have := X.ld; omega
 ·have := X.lm; omega
 ·intro k hk; exact ⟨(M.tl k hk).1, Or.inl (by simp [mem_own.2 hk])⟩
 ·intro k hk; exact ⟨(M.bl k hk).1, Or.inl (by simp [mem_own.2 hk])⟩
 ·intro k hk; exact ⟨(M.fl k hk).1, Or.inl (by simp [mem_own.2 hk])⟩
theorem StF.state {t0 : ByteArray} {w0 ww : World} {Ow : List Nat} {b r d m N q : Nat} {p : Pg} {f : Int → Value} {x : Hst} (h : StF t0 w0 Ow b r d m N p f x ww) (hq : ww.cell? ⟨q, 0, none⟩ = some (.pointer (some ⟨b, 0, none⟩))) :
  qC 18 #[.pointer (some ⟨q, 0, none⟩)] ww (.agg #[.string p.t, .int .i64 (p.pl : Nat), .int .i64 (p.anchor : Nat), .int .i64 p.mode, .bool (waits p)]) := by
 obtain ⟨tv, ns, dg, inv, M⟩ := h
 exact nState q b r d tv dg p ww hq M.bd M.rd
theorem StF.reg {t0 : ByteArray} {w0 ww : World} {Ow : List Nat} {b r d m N q : Nat} {p : Pg} {f : Int → Value} {x : Hst} {t : ByteArray} {l : Bool} (h : StF t0 w0 Ow b r d m N p f x ww) (hq : ww.cell? ⟨q, 0, none⟩ = some (.pointer (some ⟨b, 0, none⟩))) (hf : f 34 = .agg #[.string t, .bool l]) :
  qC 20 #[.pointer (some ⟨q, 0, none⟩), .int .u8 34] ww (.tuple #[.string t, .bool l]) := by
 obtain ⟨tv, ns, dg, inv, M⟩ := h
 exact nRegister_at q b r d m tv dg p 34 f t l ww hq M.bd M.rd inv.g.rg M.rg hf
theorem StU.of {t0 : ByteArray} {w0 ww : World} {Ow : List Nat} {b r d m N : Nat} {p : Pg} {f : Int → Value} {x : Hst} (h : StF t0 w0 Ow b r d m N p f x ww) (hm : p.mode = 0) (hn : p.none' = p) : StU t0 w0 Ow b r d m N x ww := ⟨p, ⟨f, h⟩, hm, hn⟩
theorem StF.txt {t0 : ByteArray} {w0 ww : World} {Ow : List Nat} {b r d m N : Nat} {p : Pg} {f : Int → Value} {x : Hst} (h : StF t0 w0 Ow b r d m N p f x ww) (hm : ¬ p.mode = 1) : p.t = x.1 ∧ p.now = x.1 := by
 obtain ⟨tv, ns, dg, inv, M⟩ := h
 exact ⟨(inv.t hm).trans inv.h.now, inv.h.now⟩
theorem StF.good {t0 : ByteArray} {w0 ww : World} {Ow : List Nat} {b r d m N : Nat} {p : Pg} {f : Int → Value} {x : Hst} (h : StF t0 w0 Ow b r d m N p f x ww) : GoodC m p := by
 obtain ⟨tv, ns, dg, inv, M⟩ := h
 exact inv.g
theorem waits_none {p : Pg} (h : p.none' = p) : waits p = false := by rw [← h]; rfl
theorem eql_stateK (s : ByteArray) (a b c : Int) (d : Bool) (w : World) : (binOp .eql 32 (.agg #[.string s, .int .i64 a, .int .i64 b, .int .i64 c, .bool d]) (.agg #[.string s, .int .i64 a, .int .i64 b, .int .i64 c, .bool d])).run Tryz.prog w = .ok (.bool true) w := by
 have e : binOp .eql 32 (.agg #[.string s, .int .i64 a, .int .i64 b, .int .i64 c, .bool d]) (.agg #[.string s, .int .i64 a, .int .i64 b, .int .i64 c, .bool d]) = (do pure (.bool (← Op.equal 32 (.agg #[.string s, .int .i64 a, .int .i64 b, .int .i64 c, .bool d]) (.agg #[.string s, .int .i64 a, .int .i64 b, .int .i64 c, .bool d])))) := rfl
 rw [e]
 simp only [Sem.run_bind, eq_stateK, Result.andThen_ok]
 rfl
theorem cut_back {s : ByteArray} {i j : Nat} (hij : i ≤ j) (hj : j ≤ s.size) : (cutS s i j).extract 0 i ++ s.extract i j ++ (cutS s i j).extract i (cutS s i j).size = s := by
 have e0 : s.data.size = s.size := rfl
 have ha : (s.data.extract 0 i).size = i := by simp; omega
 have hb : (s.data.extract j s.size).size = s.size - j := by simp
 have hz := cutS_size hij hj
 have h1 : ((cutS s i j).extract 0 i).data = s.data.extract 0 i := by
  unfold cutS
  simp only [ByteArray.data_append, ByteArray.data_extract]
  apply Array.ext
  ·simp only [Array.size_extract, Array.size_append]; omega
  ·intro k h1 h2
   rw [ha] at h2
   simp only [Array.getElem_extract, Nat.zero_add]
   rw [Array.getElem_append_left qo]
   simp
 have h2 : ((cutS s i j).extract i (cutS s i j).size).data = s.data.extract j s.size := by
  rw [hz]
  unfold cutS
  simp only [ByteArray.data_append, ByteArray.data_extract]
  apply Array.ext
  ·simp only [Array.size_extract, Array.size_append]; omega
  ·intro k h1 h2
   rw [hb] at h2
   simp only [Array.getElem_extract]
   rw [Array.getElem_append_right qo]
   simp only [ha, Array.getElem_extract]
   congr 1
   omega
 apply ByteArray.ext
 rw [ByteArray.data_append, ByteArray.data_append, h1, h2, ByteArray.data_extract]
 apply Array.ext
 ·simp only [Array.size_extract, Array.size_append]; omega
 ·intro k h1 h2
  have hc : (s.data.extract i j).size = j - i := by simp only [Array.size_extract]; omega
  by_cases k1 : k < i
  ·rw [Array.getElem_append_left (by rw [Array.size_append]; omega), Array.getElem_append_left qo]
   simp
  ·by_cases k2 : k < j
   ·rw [Array.getElem_append_left (by rw [Array.size_append]; omega), Array.getElem_append_right qo]
    simp only [ha, Array.getElem_extract]
    congr 1
    omega
   ·rw [Array.getElem_append_right (by rw [Array.size_append]; omega)]
    simp only [Array.size_append, ha, hc, Array.getElem_extract]
    congr 1
    omega
