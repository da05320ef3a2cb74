/- A part. -/
import Derived.Test.YtlendfhehhacpaaGreatT22
import Derived.Test.YtlendfhehhacpaaGreatT29
import Derived.Test.YtlendfhehhacpaaGreatT16
set_option linter.unusedVariables false
set_option linter.unusedSimpArgs false
set_option maxRecDepth 100000
set_option maxHeartbeats 8000000
namespace Go.Proofs.YtlendfhehhacpaaGreat
open Go.RowKit Nib Tryz
theorem HsAt.base {w v W : World} {r d g cap : Nat} {p : Pg} {x : Hst} {ov : Value} (h : HsAt v W r d g cap p x ov) (hu : Upd [] w v) : HsAt w W r d g cap p x ov :=
 ⟨h.rd, h.ob, h.of, h.gd, h.gr, h.od, h.or, h.og, h.gl, h.fr.imp id (fun f k hk => Nat.le_trans hu.size (f k hk)), (hu.mono qi).trans h.up⟩
theorem HsAt.start {w v : World} {r d g cap : Nat} {p : Pg} {x : Hst} (h : HsAt w w r d g cap p x p.forth) (hb : Below w.heap.size w v) : HsAt v v r d g cap p x p.forth :=
 ⟨h.rd.below hb, ownsRow_upd h.ob (Upd.of_below (S := []) hb) qi, ownsRow_upd h.of (Upd.of_below (S := []) hb) qi, h.gd, h.gr, h.od, h.or, h.og, Nat.lt_of_lt_of_le h.gl hb.size, Or.inl rfl, Upd.refl _ _⟩
theorem qt87 {P : Prop} (h : P := by
  go_wp2_with fail
  go_region_held3 (fun ww => ∃ z, Hid (ww.os = z)) ((exact ⟨_, rfl⟩)) ((go_at_call 199; refine Calls.mono HW ?_; rintro e w1 ⟨rfl, ov, h1⟩))
  go_wp2
  go_ret2
  exact ⟨rfl, ov, h1.base (Upd.drew (Upd.refl _ _))⟩
 ) : P := h
theorem hUndo (r d g cap : Nat) (p : Pg) (c : Nat) (x : Hst) (w : World) (h : HsAt w w r d g cap p x p.forth) (hx0 : 0 < x.2.1.length) (hc : 1 ≤ c) (hx1 : x.1.size ≤ 1000) (hok : OkS x.1 x.2.1) (hm : x.2.1.length + x.2.2.length ≤ 100000) :
  Calls Tryz.prog 160 #[.pointer (some ⟨d, 5, none⟩), .int .i64 (c : Nat)] w fun e w' => e = .returned (.tuple #[.string (wlkN (min c x.2.1.length) x).1, .bool true]) ∧ ∃ ov, HsAt w w' r d g cap p (wlkN (min c x.2.1.length) x) ov := by
 have HW := hWalk r d g cap p c x w.drew (h.start (Below.refl _ _).drew) hx0 hc hx1 hok hm
 generalize wlkN (min c x.2.1.length) x = y at *
 go_enter func160, ntmps160
 exact qt87
theorem HsAt.desk {w W W' : World} {r d g cap : Nat} {p p' : Pg} {x : Hst} {ov : Value} (h : HsAt w W r d g cap p x ov) (hu : Upd [d] W W') (hf : p'.forth = p.forth)
  (hr : RdAt W' r d { p' with now := x.1, back := .slice (some ⟨g, 0, none⟩) x.2.1.length cap, forth := ov }) : HsAt w W' r d g cap p' x ov :=
 ⟨hr, ownsRow_upd h.ob hu (by intro k hk; simp at hk; subst hk; simp [Value.ownBlock, h.gd]), ownsRow_upd h.of hu (by intro k hk; simp at hk; subst hk; exact h.od), h.gd, h.gr, h.od, h.or, h.og, Nat.lt_of_lt_of_le h.gl hu.size, by rw [hf]; exact h.fr, by rw [hf]; exact h.up.trans (hu.mono qi)⟩
theorem mCommand_u (r d g cap : Nat) (p : Pg) (x : Hst) (w : World) (h : HsAt w w r d g cap p x p.forth) (hx0 : 0 < x.2.1.length) (hx1 : x.1.size ≤ 1000) (hok : OkS x.1 x.2.1) (hm : x.2.1.length + x.2.2.length ≤ 100000) (hs : p.t.size ≤ 1000) (hn : p.n ≤ 99) (hb : p.behind ≤ 99) :
  Calls Tryz.prog 141 #[.agg #[.pointer (some ⟨r, 0, none⟩)], .int .u8 117] w fun e w' => e = .returned (.int .i64 1) ∧ ∃ ov, HsAt w w' r d g cap (goT p (wlkN (min (max (cnt p) 1) x.2.1.length) x).1) (wlkN (min (max (cnt p) 1) x.2.1.length) x) ov := by
 have HT : Hid (∀ ww, RdAt ww r d { p with now := x.1, back := .slice (some ⟨g, 0, none⟩) x.2.1.length cap, forth := p.forth } → qC 161 #[.pointer (some ⟨r, 1, none⟩)] ww (.int .i64 (max (cnt p) 1 : Nat))) := fun ww hh => mTimes r d { p with now := x.1, back := .slice (some ⟨g, 0, none⟩) x.2.1.length cap, forth := p.forth } ww hh hn hb
 generalize hN : max (cnt p) 1 = N at *
 have hN1 : 1 ≤ N := by omega
 have H := h.rd
 have r0 := H.bg.c0
 have hlr := H.bg.lt
 have hld := H.dk.lt
 have l1 : r < w.heap.size + 1 := by omega
 have l2 : d < w.heap.size + 1 := by omega
 have hfl : ∀ k, p.forth.ownBlock = some k → k < w.heap.size := fun k hk => (h.of.lt k hk).2
 have HU : Hid (∀ v, Below w.heap.size w v → Calls Tryz.prog 160 #[.pointer (some ⟨d, 5, none⟩), .int .i64 (N : Nat)] v fun e w' => e = .returned (.tuple #[.string (wlkN (min N x.2.1.length) x).1, .bool true]) ∧ ∃ ov, HsAt v w' r d g cap p (wlkN (min N x.2.1.length) x) ov) := fun v hv => hUndo r d g cap p N x v (h.start hv) hx0 hN1 hx1 hok hm
 have hy1 := (wlkN_ok x hx1 hok (min N x.2.1.length) qo).1
 generalize wlkN (min N x.2.1.length) x = y at *
 have hgt : ∀ ov, goT { p with now := y.1, back := .slice (some ⟨g, 0, none⟩) y.2.1.length cap, forth := ov } y.1 = { goT p y.1 with now := y.1, back := .slice (some ⟨g, 0, none⟩) y.2.1.length cap, forth := ov } := by
  intro ov
  unfold goT
  split <;> rfl
 have HG : Hid (∀ ov ww, RdAt ww r d { p with now := y.1, back := .slice (some ⟨g, 0, none⟩) y.2.1.length cap, forth := ov } → Calls Tryz.prog 159 #[.agg #[.pointer (some ⟨r, 0, none⟩)], .string y.1, .bool true] ww fun e w' => e = .returned (.int .i64 1) ∧ RdAt w' r d { goT p y.1 with now := y.1, back := .slice (some ⟨g, 0, none⟩) y.2.1.length cap, forth := ov } ∧ Upd [d] ww w') := by
  intro ov ww hh
  have := mGoTo_any r d _ y.1 ww hh hs hy1
  rw [hgt ov] at this
  exact this
 have hfp : (goT p y.1).forth = p.forth := by unfold goT; split <;> rfl
 generalize goT p y.1 = P3 at *
 clear hgt
 go_enter func141, ntmps141
 have g0 : (w.alloc (.cells #[.pointer (some ⟨r, 0, none⟩)] 77)).cell? ⟨w.heap.size, 0, none⟩ = some (.pointer (some ⟨r, 0, none⟩)) := by simp
 go_wp2_with fail
 go_region_held3 (fun ww => ww.cell? ⟨w.heap.size, 0, none⟩ = some (.pointer (some ⟨r, 0, none⟩)) ∧ ww.cell? ⟨r, 0, none⟩ = some (.pointer (some ⟨d, 0, none⟩))) (exact qK) (first | (go_at_call 161; refine Calls.mono (HT.out _ qRd) ?_; rintro e1 w1 ⟨rfl, h1⟩; have hz1 := h1.size; (try simp at hz1)) | (go_at_call 160; refine Calls.mono (HU.out w1 qB) ?_; rintro e2 w2 ⟨rfl, ov, h2⟩; have s0 := h2.rd.bg.c0; have s1 := h2.up.was (b := w.heap.size) (o := 0) (v := .pointer (some ⟨r, 0, none⟩)) qM (by intro hk; rcases List.mem_cons.1 hk with hk | hk; (omega); (have := hfl _ (mem_ownC.1 hk); omega))) | (go_at_call 159; refine Calls.mono (HG.out ov w2 h2.rd) ?_; rintro e3 w3 ⟨rfl, h3, u3⟩; have q0 := h3.bg.c0; have q1 := u3.was (b := w.heap.size) (o := 0) (v := .pointer (some ⟨r, 0, none⟩)) (by assumption) qs))
 go_wp2
 go_ret
 refine ⟨rfl, ov, ?_⟩
 refine HsAt.base (v := w1) (HsAt.desk h2 u3 hfp h3) (Upd.of_below ?_)
 repeat exact qB
theorem press_normal_did (b r d : Nat) (p p2 : Pg) (tv : Value) (n : Nat) (ns : List Int) (dg : ByteArray) (key : Int) (nb : Nat) (bs : List Value) (A E : World → Prop) (T : List Nat) (w : World) (HB : BdAt w b r d tv dg) (ho : w.ownsRow 0 5 1 tv n (ns.map (Value.int .u8))) (hA : A w) (hr : HasR A r d p) (hbT : b ∉ T) (htb : tv.ownBlock ≠ some b) (htr : tv.ownBlock ≠ some r) (htd : tv.ownBlock ≠ some d) (htT : ∀ k, k ∈ T → tv.ownBlock ≠ some k) (hn : n ≤ 17592186044416) (hm : p.mode = 0)
  (sE : ∀ u v, E u → Upd (b :: d :: (own tv ++ own p2.back)) u v → E v)
  (hm2 : ¬ p2.mode = 1) (hne : ¬ p2.t = p2.now) (hs : p2.t.size ≤ 1000) (hs2 : p2.now.size ≤ 1000) (hbk : ∀ ww, E ww → ww.ownsRow 0 130 3 p2.back nb bs) (hkd : p2.back.ownBlock ≠ some d) (hkr : p2.back.ownBlock ≠ some r) (hkb : p2.back.ownBlock ≠ some b) (hnb : nb ≤ 1000000) (hbr : b ≠ r) (hbd : b ≠ d) (HT : TakesB b r d tv dg key A (fun ww => RdAt ww r d p2 ∧ E ww) 2 T) :
  Calls Tryz.prog 38 #[.pointer (some ⟨b, 0, none⟩), .int .u8 key] w fun e w' => e = .returned (.int .i64 2) ∧ BdAt w' b r d (.slice none 0 0) (strOfNums (ns ++ [key])) ∧ ∃ g cap, RdAt w' r d { p2 with now := p2.t, back := .slice (some ⟨g, 0, none⟩) (nb + 1) cap, forth := .slice none 0 0 } ∧ E w' ∧ w'.ownsRow 0 130 3 (.slice (some ⟨g, 0, none⟩) (nb + 1) cap) (nb + 1) (bs ++ stp p2.t p2.now) ∧ (p2.back.ownBlock = some g ∨ w.heap.size ≤ g) ∧ Upd (b :: d :: (T ++ (own tv ++ own p2.back))) w w' := by
 have HK : Hid (∀ ww, BdAt ww b r d tv dg → ww.ownsRow 0 5 1 tv n (ns.map (Value.int .u8)) → Calls Tryz.prog 47 #[.pointer (some ⟨b, 1, none⟩), .int .u8 key, .int .i64 0] ww fun e w' => e = .returned (.tuple #[]) ∧ ∃ tv', BdAt w' b r d tv' dg ∧ w'.ownsRow 0 5 1 tv' (n + 1) (ns.map (Value.int .u8) ++ [.int .u8 key]) ∧ (tv'.ownBlock = tv.ownBlock ∨ ∃ g, tv'.ownBlock = some g ∧ ww.heap.size ≤ g) ∧ Upd (b :: own tv) ww w') := fun ww h1 h2 => mKeep_normal b r d tv dg key n (ns.map (Value.int .u8)) ww h1 htb h2 hn
 have HE : Hid (∀ tv' ww, BdAt ww b r d tv' dg → ww.ownsRow 0 5 1 tv' (n + 1) ((ns ++ [key]).map (Value.int .u8)) → Calls Tryz.prog 48 #[.pointer (some ⟨b, 1, none⟩), .int .i64 2] ww fun e w' => e = .returned (.tuple #[]) ∧ BdAt w' b r d (.slice none 0 0) (strOfNums (ns ++ [key])) ∧ Upd [b] ww w') := by
  intro tv' ww h1 h2
  obtain ⟨g, cap, rfl, _⟩ := owned_some h2 qo
  have hlen := h2.1
  simp only [List.length_map] at hlen
  exact mEnd_did b r d g (n + 1) cap (ns ++ [key]) dg ww h1 h2 qo qo
 have HH : Hid (∀ ww, RdAt ww r d p2 → ww.ownsRow 0 130 3 p2.back nb bs → Calls Tryz.prog 49 #[.pointer (some ⟨d, 5, none⟩), .string p2.t] ww fun e w' => e = .returned (.tuple #[]) ∧ ∃ g cap, RdAt w' r d { p2 with now := p2.t, back := .slice (some ⟨g, 0, none⟩) (nb + 1) cap, forth := .slice none 0 0 } ∧ w'.ownsRow 0 130 3 (.slice (some ⟨g, 0, none⟩) (nb + 1) cap) (nb + 1) (bs ++ stp p2.t p2.now) ∧ (p2.back.ownBlock = some g ∨ ww.heap.size ≤ g) ∧ Upd (d :: own p2.back) ww w') := fun ww h1 h2 => hKeep_new r d p2 nb bs ww h1 h2 hkd hkr hnb hne hs hs2
 generalize strOfNums (ns ++ [key]) = DG at *
 generalize bs ++ stp p2.t p2.now = BS at *
 have HR := hr w hA
 have b0 := HB.c0
 have r0 := HR.bg.c0
 have d3 := HR.dk.c3
 rw [hm] at d3
 have bl := HB.lt
 have rl := HR.bg.lt
 have dl := HR.dk.lt
 have hm2q : (p2.mode != 1) = true := by simp [hm2]
 have hm2' : (p2.mode == 1) = false := by simp [hm2]
 clear hn
 go_enter func38, ntmps38
 go_wp2_with fail
 refine Calls.mono (HT.out _ HB hA) ?_
 rintro e w1 ⟨rfl, ⟨R1, E1⟩, u1⟩
 have B1 := HB.upd u1 hbT
 have o1 := ownsRow_upd ho u1 htT
 go_wp2_with fail
 refine Calls.mono (HK.out _ B1 o1) ?_
 rintro e w2 ⟨rfl, tv', B2, o2, f2, u2⟩
 have R2 : RdAt w2 r d p2 := R1.upd u2 (by simp [mem_own, htr]; exact fun e => hbr e.symm) (by simp [mem_own, htd]; exact fun e => hbd e.symm)
 have E2 := sE _ _ E1 (u2.mono (by intro k hk; simp only [List.mem_cons, List.mem_append] at hk ⊢; rcases hk with hk | hk <;> simp [hk]))
 rw [show ns.map (Value.int .u8) ++ [.int .u8 key] = (ns ++ [key]).map (Value.int .u8) by simp] at o2
 have e0 := B2.c0
 have e1 := R2.bg.c0
 have e2 := R2.dk.c3
 clear f2
 go_wp2_with fail
 refine Calls.mono (HE.out _ _ B2 o2) ?_
 rintro e w3 ⟨rfl, B3, u3⟩
 have R3 : RdAt w3 r d p2 := R2.upd u3 (by simp; exact fun e => hbr e.symm) (by simp; exact fun e => hbd e.symm)
 have E3 := sE _ _ E2 (u3.mono qi)
 have g0 := B3.c0
 have g1 := R3.bg.c0
 have g2 := R3.dk.c0
 have z1 := u1.size
 have z2 := u2.size
 have z3 := u3.size
 have E3d := sE _ _ E3 (Upd.drew (Upd.refl _ _))
 have ok3 := hbk _ E3d
 go_wp2_with fail
 go_region_held3 (fun ww => ww.cell? ⟨b, 0, none⟩ = some (.pointer (some ⟨r, 0, none⟩)) ∧ ww.cell? ⟨r, 0, none⟩ = some (.pointer (some ⟨d, 0, none⟩)) ∧ ww.cell? ⟨d, 0, none⟩ = some (.string p2.t)) ((refine ⟨?_, ?_, ?_⟩ <;> (first | (go_simp; done) | (with_reducible assumption)))) ((go_at_call 49; refine Calls.mono (HH.out _ R3.drew ok3) ?_; rintro e4 w4 ⟨rfl, gg, cap, R4, o4, f4, u4⟩; have q1 := R4.bg.c0; have q2 := R4.dk.c0; have q0 := u4.was (b := b) (o := 0) (v := .pointer (some ⟨r, 0, none⟩)) (memLater ((Below.refl _ _).drew) g0) (by simp [mem_own, hkb, hbd])))
 go_wp2
 go_ret
 have B4 : BdAt w4 b r d (.slice none 0 0) DG := (B3.drew).upd u4 (by simp [mem_own, hkb, hbd])
 have E4 := sE _ _ E3d (u4.mono (by intro k hk; simp only [List.mem_cons, List.mem_append] at hk ⊢; rcases hk with hk | hk <;> simp [hk]))
 have z4 := u4.size
 simp at z4
 refine ⟨rfl, B4, gg, cap, R4, E4, o4, ?_, ?_⟩
 ·rcases f4 with f | f
  ·exact Or.inl f
  ·simp at f; exact Or.inr qo
 ·refine Upd.trans (Upd.drew (((u1.mono ?_).trans (u2.mono ?_)).trans (u3.mono ?_))) (u4.mono ?_)
  ·intro k hk; simp [hk]
  ·intro k hk; simp only [List.mem_cons, List.mem_append] at hk ⊢; rcases hk with hk | hk <;> simp [hk]
  ·simp
  ·intro k hk; simp only [List.mem_cons, List.mem_append] at hk ⊢; rcases hk with hk | hk <;> simp [hk]
theorem mTake_cmdB (r d : Nat) (p : Pg) (key O : Int) (A B : World → Prop) (T : List Nat) (w : World) (hA : A w) (fA : Firm A) (fB : Firm B) (hr : HasR A r d p) (hp : p.part = 0) (hv : p.verb = 0) (hd : isD p.n key = false)
  (HC : GivesB 141 #[.agg #[.pointer (some ⟨r, 0, none⟩)], .int .u8 key] A B O T) :
  Calls Tryz.prog 137 #[.agg #[.pointer (some ⟨r, 0, none⟩)], .int .u8 key] w fun e w' => e = .returned (.int .i64 O) ∧ B w' ∧ Upd T w w' := by
 have H := hr w hA
 have HD : Hid (∀ ww, RdAt ww r d p → qC 139 #[.pointer (some ⟨r, 1, none⟩), .int .u8 key] ww (.bool false)) := fun ww hh => mDigit_no r d p key ww hh hv hd
 obtain ⟨b0, b1, b2, b3, b4, b5, bz, bl⟩ := H.bg
 rw [hp] at b5
 rw [hv] at b3
 clear b1 b2 b4 hp hv hd
 have l1 : r < w.heap.size + 1 := by omega
 go_enter func137, ntmps137
 exact qt70
