/- Joined of the texts LawF, LawH, LawI, WalkV, LawA, LawG. -/
import Derived.Test.YtlendfhehhacpaaGreatP48
import Derived.Test.YtlendfhehhacpaaGreatP18
import Derived.Test.YtlendfhehhacpaaGreatP16
import Derived.Test.YtlendfhehhacpaaGreatP09
set_option linter.unusedVariables false
set_option linter.unusedSimpArgs false
set_option maxRecDepth 100000
set_option maxHeartbeats 8000000
namespace Go.Proofs.YtlendfhehhacpaaGreat
open Go.RowKit
structure Typed (m : Nat) (s : ByteArray) (e : Nib.Ed) (p : Pg) (e2 : Nib.Ed) (p2 : Pg) (N : Int) : Prop where
  good : Good m e2 p2
  ks : e2.keys.size ≤ e.keys.size + s.size
  ref : ∀ b dv uv w, EdAt w b e dv uv → Calls Tryz.prog 28 #[.pointer (some ⟨b, 0, none⟩), .string s] w fun r w' => r = .returned (.int .i64 N) ∧ EdAt w' b e2 dv uv ∧ Upd [b] w w'
  prog : ∀ b r d dg tv n w, NbAt w b r d p tv n dg → n + s.size ≤ lim → Calls Tryz.prog 30 #[.pointer (some ⟨b, 0, none⟩), .string s] w fun e w' =>
    e = .returned (.int .i64 N) ∧ ∃ tv' n', NbAt w' b r d p2 tv' n' dg ∧ n' ≤ n + s.size ∧ Fresh w tv tv' ∧ Upd (blks b r d tv) w w'
theorem PressR.le {b r d : Nat} {dg : ByteArray} {key : Int} {p p2 : Pg} {O : Int} {M M' : Nat} (h : PressR b r d dg key p p2 O M) (hM : M' ≤ M) : PressR b r d dg key p p2 O M' :=
  fun ww tv n h1 h2 => h ww tv n h1 (by omega)
theorem type_any (HA : AnyOk) {m : Nat} {e : Nib.Ed} {p : Pg} (s : ByteArray) (h : Good m e p) (hs : ∀ k, (hk : k < s.size) → Nib.key1 (s[k]'hk).toNat = true) (hz : e.keys.size + s.size ≤ lim) : ∃ e2 p2 N, Typed m s e p e2 p2 N := by
  have hx : ∀ (x : { y : Nib.Ed × Pg // Good m y.1 y.2 }) (v : { u : UInt8 // Nib.key1 u.toNat = true }), ∃ y : { y : Nib.Ed × Pg // Good m y.1 y.2 } × Int, Step m v.1 x.1.1 x.1.2 y.1.1.1 y.1.1.2 y.2 := by
    intro x v
    obtain ⟨e2, p2, O, hS⟩ := step_any HA x.2 v.2
    exact ⟨(⟨(e2, p2), hS.good⟩, O), hS⟩
  let nx := fun x v => Classical.choose (hx x v)
  have hnx : ∀ x v, Step m v.1 x.1.1 x.1.2 (nx x v).1.1.1 (nx x v).1.1.2 (nx x v).2 := fun x v => Classical.choose_spec (hx x v)
  let st : Nat → { y : Nib.Ed × Pg // Good m y.1 y.2 } := fun k => Nat.rec ⟨(e, p), h⟩ (fun k x => if hk : k < s.size then (nx x ⟨s[k]'hk, hs k hk⟩).1 else x) k
  let O : Nat → Int := fun k => if hk : k < s.size then (nx (st k) ⟨s[k]'hk, hs k hk⟩).2 else 0
  have h0 : st 0 = ⟨(e, p), h⟩ := rfl
  have h1 : ∀ k, (hk : k < s.size) → st (k + 1) = (nx (st k) ⟨s[k]'hk, hs k hk⟩).1 := fun k hk => by
    show (if hk : k < s.size then (nx (st k) ⟨s[k]'hk, hs k hk⟩).1 else st k) = _
    rw [dif_pos hk]
  have h2 : ∀ k, (hk : k < s.size) → O k = (nx (st k) ⟨s[k]'hk, hs k hk⟩).2 := fun k hk => by
    show (if hk : k < s.size then (nx (st k) ⟨s[k]'hk, hs k hk⟩).2 else 0) = _
    rw [dif_pos hk]
  have hS : ∀ k, (hk : k < s.size) → Step m (s[k]'hk) (st k).1.1 (st k).1.2 (st (k + 1)).1.1 (st (k + 1)).1.2 (O k) := fun k hk => by
    rw [h1 k hk, h2 k hk]
    exact hnx (st k) ⟨s[k]'hk, hs k hk⟩
  clear_value nx st O
  have hK : ∀ k, k ≤ s.size → (st k).1.1.keys.size ≤ e.keys.size + k := by
    intro k
    induction k with
    | zero => intro _; rw [h0]; exact Nat.le_refl _
    | succ k ih =>
      intro hk
      have a := ih (by omega)
      have b := (hS k (by omega)).ks
      omega
  refine ⟨(st s.size).1.1, (st s.size).1.2, ((sumTo (fun k => if O k = 4 then 1 else 0) s.size : Nat) : Int), ⟨(st s.size).2, hK s.size (Nat.le_refl _), ?_, ?_⟩⟩
  · intro b dv uv w hE
    have hl := lim_eq
    refine refType_any b s (fun k => (st k).1.1) (fun k => if O k = 4 then 1 else 0) (fun _ => dv) (fun _ => uv) w (by rw [h0]; exact hE) (by omega) (fun k => by show (if O k = 4 then 1 else 0) ≤ 1; split <;> omega) ?_
    intro k hk ww hE2
    exact (hS k hk).ref b dv uv ww hE2 (by have := hK k (by omega); omega)
  · intro b r d dg tv n w hN hn
    have hl := lim_eq
    refine bType_any b r d dg s (fun k => (st k).1.2) O tv n n w (by rw [h0]; exact hN) (Nat.le_refl _) (by omega) ?_
    intro k hk
    exact ((hS k hk).prog b r d dg).le (by omega)
theorem eqIn_str (d : Nat) (a b : ByteArray) (w : World) : (Op.equalIn (d + 1) 9 (.string a) (.string b)).run Tryz.prog w = .ok (a == b) w := by
  simp [Op.equalIn, run_underlying Tryz.underlying9]
theorem eqIn_bool (d : Nat) (a b : Bool) (w : World) : (Op.equalIn (d + 1) 4 (.bool a) (.bool b)).run Tryz.prog w = .ok (a == b) w := by
  simp [Op.equalIn, run_underlying Tryz.underlying4]
theorem eq_state_in (k : Nat) (s : ByteArray) (a b c : Int) (d : Bool) (w : World) : (Op.equalIn (k + 2) 32 (.agg #[.string s, .int .i64 a, .int .i64 b, .int .i64 c, .bool d]) (.agg #[.string s, .int .i64 a, .int .i64 b, .int .i64 c, .bool d])).run Tryz.prog w = .ok true w := by
  have h1 := fun x y w => eqIn_int k x y w
  have h2 := fun x y w => eqIn_str k x y w
  have h3 := fun x y w => eqIn_bool k x y w
  rw [show k + 2 = (k + 1) + 1 by omega]
  rw [Op.equalIn]
  simp only [Sem.run_bind, run_underlying Tryz.underlying32, Result.andThen_ok]
  simp [go_sem, part, h1, h2, h3, Std.Legacy.Range.forIn_eq_forIn_range', List.range']
  first | exact beq_self_eq_true s | (show (s.data == s.data) = true; simp) | (cases s; rfl)
theorem eq_state (s : ByteArray) (a b c : Int) (d : Bool) (w : World) : (Op.equal 32 (.agg #[.string s, .int .i64 a, .int .i64 b, .int .i64 c, .bool d]) (.agg #[.string s, .int .i64 a, .int .i64 b, .int .i64 c, .bool d])).run Tryz.prog w = .ok true w := eq_state_in 9998 s a b c d w
theorem neq_state (s : ByteArray) (a b c : Int) (d : Bool) (w : World) : (binOp .neq 32 (.agg #[.string s, .int .i64 a, .int .i64 b, .int .i64 c, .bool d]) (.agg #[.string s, .int .i64 a, .int .i64 b, .int .i64 c, .bool d])).run Tryz.prog w = .ok (.bool false) w := by
  have e : binOp .neq 32 (.agg #[.string s, .int .i64 a, .int .i64 b, .int .i64 c, .bool d]) (.agg #[.string s, .int .i64 a, .int .i64 b, .int .i64 c, .bool d]) = (do pure (.bool (!(← Op.equal 32 (.agg #[.string s, .int .i64 a, .int .i64 b, .int .i64 c, .bool d]) (.agg #[.string s, .int .i64 a, .int .i64 b, .int .i64 c, .bool d]))))) := rfl
  rw [e, Sem.run_bind, eq_state]
  rfl
structure Pl where
  k : Nat
  q : Nat
  b : Nat
  r : Nat
  d : Nat
  m : Nat
  rb : Nat
  tv : Value
  n : Nat
  e : Nib.Ed
  p : Pg
  dv : Value
  uv : Value
structure PlAt (w : World) (x : Pl) : Prop where
  c0 : w.cell? ⟨x.k, 0, none⟩ = some (.pointer (some ⟨x.q, 0, none⟩))
  c1 : w.cell? ⟨x.k, 1, none⟩ = some (.pointer (some ⟨x.rb, 0, none⟩))
  cq : w.cell? ⟨x.q, 0, none⟩ = some (.pointer (some ⟨x.b, 0, none⟩))
  nb : NbAt w x.b x.r x.d x.p x.tv x.n ⟨#[]⟩
  mp : w.heap[x.m]? = some (.map #[] 0)
  ed : EdAt w x.rb x.e x.dv x.uv
  good : Good x.m x.e x.p
theorem NbAt.of_upd {S : List Nat} {w w' : World} {b r d : Nat} {p : Pg} {tv : Value} {n : Nat} {dg : ByteArray} (h : NbAt w b r d p tv n dg) (hu : Upd S w w') (hn : ∀ x, x ∈ blks b r d tv → x ∉ S) : NbAt w' b r d p tv n dg := by
  obtain ⟨h1, h2, ⟨xs, h3⟩, h4, h5, h6, h7, h8⟩ := h
  have n1 := hn b (by simp [blks])
  have n2 := hn r (by simp [blks])
  have n3 := hn d (by simp [blks])
  refine ⟨h1.upd hu n1, h2.upd hu n2 n3, ⟨xs, ownsRow_upd h3 hu ?_⟩, h4, h5, h6, h7, h8⟩
  intro k hk hq
  exact hn k (by simp [blks, mem_own, hq]) hk
theorem PlAt.of_upd {S : List Nat} {w w' : World} {x : Pl} (h : PlAt w x) (hu : Upd S w w') (hk : x.k ∉ S) (hq : x.q ∉ S) (hm : x.m ∉ S) (hr : x.rb ∉ S) (hb : ∀ y, y ∈ blks x.b x.r x.d x.tv → y ∉ S) : PlAt w' x :=
  ⟨hu.was h.c0 hk, hu.was h.c1 hk, hu.was h.cq hq, h.nb.of_upd hu hb, (hu.block x.m (Array.getElem?_eq_some_iff.1 h.mp).1 hm).trans h.mp, h.ed.upd hu hr, h.good⟩
theorem PlAt.below {w w' : World} {x : Pl} (h : PlAt w x) (hb : Below w.heap.size w w') : PlAt w' x := h.of_upd (Upd.of_below (S := []) hb) (by simp) (by simp) (by simp) (by simp) (by simp)
theorem good_state {m : Nat} {e : Nib.Ed} {p : Pg} (h : Good m e p) : p.t = e.t ∧ ((p.pl : Nat) : Int) = e.p ∧ ((p.anchor : Nat) : Int) = anchorOf e ∧ p.mode = e.mode ∧ waits p = !(e.keys.toList.isEmpty) := by
  refine ⟨h.t, by rw [h.pl], ?_, h.mo, ?_⟩
  · rw [h.an, anchorOf]
    rcases h.md with hm | hm | hm
    · rw [if_pos hm, if_neg (by omega)]; rfl
    · rw [if_neg (by omega), if_pos (Or.inl hm)]
    · rw [if_neg (by omega), if_pos (Or.inr hm)]
  · have hE := h.bg.empty
    unfold waits
    rw [h.r0, h.v0, h.b0]
    have hk : e.keys.toList.isEmpty = decide (e.keys.size = 0) := by
      rw [Lib.toList_data]
      have : e.keys.size = e.keys.data.toList.length := by rw [Array.length_toList]; rfl
      rw [this]
      cases e.keys.data.toList <;> simp
    rw [hk]
    congr 1
    rw [Bool.eq_iff_iff]
    simp only [beq_self_eq_true, Bool.true_and, Bool.and_true, Bool.and_eq_true, beq_iff_eq, decide_eq_true_eq]
    rw [show (((p.n : Nat) : Int) = 0) = (p.n = 0) from propext (by omega), hE]
    simp
theorem good_reg {m : Nat} {e : Nib.Ed} {p : Pg} (h : Good m e p) (c : Int) : regOf e c = (⟨#[]⟩, false) := by
  unfold regOf
  rw [h.rs, h.rl]
  split <;> rfl
theorem PlAt.alloc {w : World} {x : Pl} (h : PlAt w x) (o : Obj) : PlAt (w.alloc o) x := h.below ((Below.refl _ _).alloc (Nat.le_refl _) _)
theorem PlAt.drewN {w : World} {x : Pl} (h : PlAt w x) (n : Nat) : PlAt (w.drewN n) x := h.below (below_drewN (Below.refl _ _) _)
theorem PlAt.drew {w : World} {x : Pl} (h : PlAt w x) : PlAt w.drew x := h.below (Below.refl _ _).drew
theorem lawSeen_any (x : Pl) (w : World) (h : PlAt w x) :
    Calls Tryz.prog 29 #[.pointer (some ⟨x.k, 0, none⟩)] w fun e w' => e = .returned (.bool true) ∧ Below w.heap.size w w' := by
  obtain ⟨s1, s2, s3, s4, s5⟩ := good_state h.good
  have HS : Hid (∀ ww, PlAt ww x → Calls Tryz.prog 18 #[.pointer (some ⟨x.q, 0, none⟩)] ww fun e w' => e = .returned (.agg #[.string x.e.t, .int .i64 x.e.p, .int .i64 (anchorOf x.e), .int .i64 x.e.mode, .bool (!(x.e.keys.toList.isEmpty))]) ∧ Below ww.heap.size ww w') := by
    intro ww hh
    have := nState x.q x.b x.r x.d x.tv _ x.p ww hh.cq hh.nb.bd hh.nb.rd
    rw [s1, s2, s3, s4, s5] at this
    exact this
  have HT : Hid (∀ ww, PlAt ww x → Calls Tryz.prog 36 #[.pointer (some ⟨x.rb, 0, none⟩)] ww fun e w' => e = .returned (.agg #[.string x.e.t, .int .i64 x.e.p, .int .i64 (anchorOf x.e), .int .i64 x.e.mode, .bool (!(x.e.keys.toList.isEmpty))]) ∧ Below ww.heap.size ww w') := fun ww hh => refState_any x.rb x.e x.dv x.uv ww hh.ed
  have HR : Hid (∀ c ww, PlAt ww x → Calls Tryz.prog 20 #[.pointer (some ⟨x.q, 0, none⟩), .int .u8 c] ww fun e w' => e = .returned (.tuple #[.string ⟨#[]⟩, .bool false]) ∧ Below ww.heap.size ww w') := fun c ww hh => nRegister_none x.q x.b x.r x.d x.m x.tv _ x.p c 0 ww hh.cq hh.nb.bd hh.nb.rd h.good.rg hh.mp
  have HU : Hid (∀ c ww, 0 ≤ c → c < 256 → PlAt ww x → Calls Tryz.prog 37 #[.pointer (some ⟨x.rb, 0, none⟩), .int .u8 c] ww fun e w' => e = .returned (.tuple #[.string ⟨#[]⟩, .bool false]) ∧ Below ww.heap.size ww w') := by
    intro c ww h0 h1 hh
    have := refRegister_any x.rb x.e c x.dv x.uv ww hh.ed h0 h1
    rw [good_reg h.good c] at this
    exact this
  have hne := neq_state x.e.t x.e.p (anchorOf x.e) x.e.mode (!(x.e.keys.toList.isEmpty))
  have c0 := h.c0
  have c1 := h.c1
  have kl : x.k < w.heap.size := World.block_lt_of_cell? w ⟨x.k, 0, none⟩ c0
  have H := h
  clear s1 s2 s3 s4 s5 h
  generalize (!(x.e.keys.toList.isEmpty)) = KE at *
  generalize anchorOf x.e = AN at *
  go_enter Tryz.func29, Tryz.ntmps29
  go_wp2_with fail
  go_region_held3 (fun ww => ww.cell? ⟨x.k, 0, none⟩ = some (.pointer (some ⟨x.q, 0, none⟩)) ∧ ww.cell? ⟨x.k, 1, none⟩ = some (.pointer (some ⟨x.rb, 0, none⟩))) ((refine ⟨?_, ?_⟩ <;> (first | (go_simp; done) | (repeat (first | with_reducible assumption | (with_reducible refine memLater ((Below.refl _ _).drew) ?_) | (with_reducible refine memLater h1 ?_) | (with_reducible refine memLater h2 ?_)))))) (first | (go_at_call 18; refine Calls.mono (HS.out _ (by (repeat (with_reducible first | exact H | refine PlAt.alloc ?_ _ | refine PlAt.drewN ?_ _ | refine PlAt.drew ?_)))) ?_; rintro e1 w1 ⟨rfl, h1⟩) | (go_at_call 36; refine Calls.mono (HT.out _ (by (repeat (with_reducible first | exact H | refine PlAt.alloc ?_ _ | refine PlAt.drewN ?_ _ | refine PlAt.drew ?_ | refine PlAt.below ?_ h1)))) ?_; rintro e2 w2 ⟨rfl, h2⟩))
  go_wp2
  go_loopw [3] (fun i wr => ∃ c : Nat, c ≤ 256 ∧ i = .int .i64 c ∧ PlAt wr x ∧ Below w.heap.size w wr) (fun i _ => 256 - (intOf i).toNat)
  case atStart => exact ⟨0, by omega, rfl, (by (repeat (with_reducible first | exact H | refine PlAt.alloc ?_ _ | refine PlAt.drewN ?_ _ | refine PlAt.drew ?_ | refine PlAt.below ?_ h2 | refine PlAt.below ?_ h1))), by (repeat (with_reducible first | exact Below.refl _ _ | refine Below.drew ?_ | refine below_drewN ?_ _ | refine Below.trans ?_ (Below.mono h2 (by first | omega | (have := h1.size; simp at this ⊢; omega))) | refine Below.trans ?_ (Below.mono h1 (by first | omega | simp))))⟩
  case round =>
    clear c0 c1 H h1 h2
    obtain ⟨c, hc, rfl, H, hB⟩ := hrel
    have c0 := H.c0
    have c1 := H.c1
    by_cases hlt : c < 256
    · have hw : IntKind.u8.wrap (c : Int) = (c : Int) := by rw [IntKind.wrap_u8]; omega
      go_wp2_with fail
      refine Calls.mono (HR.out _ _ (by (repeat (with_reducible first | exact H | refine PlAt.alloc ?_ _ | refine PlAt.drewN ?_ _ | refine PlAt.drew ?_)))) ?_
      rintro e w3 ⟨rfl, h3⟩
      have H3 := H.below h3
      have d1 := H3.c1
      have d0 := H3.c0
      go_wp2_with fail
      refine Calls.mono (HU.out _ _ (by omega) (by omega) H3) ?_
      rintro e w4 ⟨rfl, h4⟩
      have H4 := H3.below h4
      have hB4 : Hid (Below w.heap.size w w4) := (hB.trans (Below.mono h3 hB.size)).trans (Below.mono h4 (Nat.le_trans hB.size h3.size))
      clear hB h3 h4 d0 d1 c0 c1
      go_wp2
      go_roundw
      case rel => exact ⟨c + 1, by omega, by go_num, H4, hB4.out⟩
      case measure => simp [intOf] <;> omega
    · go_wp2
      go_ret
      exact ⟨rfl, hB⟩
theorem lawIn_any (s : ByteArray) (c : Int) (w : World) (hs : s.size ≤ 1000) :
    Calls Tryz.prog 41 #[.string s, .int .u8 c] w fun e w' => e = .returned (.bool (Nib.mem s c)) ∧ w' = w := by
  generalize hx : Nib.mem s c = x
  have HX : Hid (x = decide (Nib.up (fun i => Nib.bt s i != c) s.size 0 < s.size)) := by rw [Hid, ← hx]; rfl
  clear hx
  generalize hu : Nib.up (fun i => Nib.bt s i != c) s.size 0 = u at HX
  have HU : Hid (Nib.up (fun i => Nib.bt s i != c) s.size 0 = u) := hu
  clear hu
  go_enter Tryz.func41, Tryz.ntmps41
  go_wp2
  go_loop [5] (fun i => ∃ k : Nat, k ≤ s.size ∧ i = .int .i64 k ∧ Hid (Nib.up (fun i => Nib.bt s i != c) s.size k = u)) (fun i => s.size - (intOf i).toNat)
  case atStart => exact ⟨0, by omega, rfl, HU⟩
  case round =>
    clear HU
    obtain ⟨k, hk, rfl, hu⟩ := hrel
    by_cases hlt : k < s.size
    · by_cases hc : Nib.bt s k = c
      · have HK : Hid (x = true) := by
          have e : k = u := by rw [← hu.out, Nib.up_stop]; simp [hc]
          rw [Hid, HX.out, ← e]; simp [hlt]
        have hc' : (((s[k]'hlt).toNat : Int) == c) = true := by rw [← Nib.bt_in hlt]; simp [hc]
        clear hu hc HX
        go_wp2
        go_ret
        exact ⟨ret_bool (by rw [HK.out]), rfl⟩
      · have HS : Hid (Nib.up (fun i => Nib.bt s i != c) s.size (k + 1) = u) := by rw [Hid, ← hu.out, Nib.up_step hlt]; simp [hc]
        have hc' : (((s[k]'hlt).toNat : Int) == c) = false := by rw [← Nib.bt_in hlt]; simp [hc]
        clear hu hc
        go_wp2
        go_round
        case rel => exact ⟨k + 1, by omega, by go_num, HS⟩
        case measure => simp [intOf] <;> omega
    · have HK : Hid (x = false) := by
        have e : k = u := by rw [← hu.out, Nib.up_stop]; simp [hlt]
        rw [Hid, HX.out, ← e]; simp [hlt]
      clear hu HX
      go_wp2
      go_ret
      exact ⟨ret_bool (by rw [HK.out]), rfl⟩
def pickOf (c n : Int) : Int := if c < 0 then (-(c + 1)).tmod n else c.tmod n
def kSome : ByteArray := ⟨#[100, 99, 121, 120, 88, 68, 67, 115, 83, 89, 105, 73, 97, 65, 111, 79, 60, 62]⟩
def keyOf (c stage : Int) : Bool :=
  decide (2 < stage) || (!(c == 117 || c == 46 || c == 18 || c == 85 || c == 74 || c == 114 || c == 126 || c == 112 || c == 80 || c == 34) && (stage == 2 || !Nib.mem kSome c))
theorem lawKey_any (c stage : Int) (w : World) :
    Calls Tryz.prog 34 #[.int .u8 c, .int .i64 stage] w fun e w' => e = .returned (.bool (keyOf c stage)) ∧ w' = w := by
  have HK : Hid (keyOf c stage = (decide (2 < stage) || (!(c == 117 || c == 46 || c == 18 || c == 85 || c == 74 || c == 114 || c == 126 || c == 112 || c == 80 || c == 34) && (stage == 2 || !Nib.mem kSome c)))) := rfl
  generalize keyOf c stage = y at *
  by_cases h3 : 2 < stage
  · have HZ : Hid (y = true) := by rw [Hid, HK.out]; simp [h3]
    clear HK
    go_enter Tryz.func34, Tryz.ntmps34
    go_wp2
    go_ret
    exact ⟨ret_bool (by rw [HZ.out]), rfl⟩
  · by_cases hc : c = 117 ∨ c = 46 ∨ c = 18 ∨ c = 85 ∨ c = 74 ∨ c = 114 ∨ c = 126 ∨ c = 112 ∨ c = 80 ∨ c = 34
    · have HZ : Hid (y = false) := by rw [Hid, HK.out]; rcases hc with h | h | h | h | h | h | h | h | h | h <;> simp [h, h3]
      clear HK
      rcases hc with h | h | h | h | h | h | h | h | h | h
      all_goals
        subst h
        go_enter Tryz.func34, Tryz.ntmps34
        go_wp2
        go_ret
        exact ⟨ret_bool (by rw [HZ.out]), rfl⟩
    · have g1 : (c == 117) = false := by simp; omega
      have g2 : (c == 46) = false := by simp; omega
      have g3 : (c == 18) = false := by simp; omega
      have g4 : (c == 85) = false := by simp; omega
      have g5 : (c == 74) = false := by simp; omega
      have g6 : (c == 114) = false := by simp; omega
      have g7 : (c == 126) = false := by simp; omega
      have g8 : (c == 112) = false := by simp; omega
      have g9 : (c == 80) = false := by simp; omega
      have g10 : (c == 34) = false := by simp; omega
      by_cases h2 : stage = 2
      · have h2' : (stage == 2) = true := by simp [h2]
        have HZ : Hid (y = true) := by rw [Hid, HK.out, g1, g2, g3, g4, g5, g6, g7, g8, g9, g10, h2']; simp
        clear HK hc h2
        go_enter Tryz.func34, Tryz.ntmps34
        go_wp2
        go_ret
        exact ⟨ret_bool (by rw [HZ.out]), rfl⟩
      · have h2' : (stage == 2) = false := by simp [h2]
        have HZ : Hid (y = !Nib.mem kSome c) := by rw [Hid, HK.out, g1, g2, g3, g4, g5, g6, g7, g8, g9, g10, h2']; simp [h3]
        clear HK hc h2
        go_enter Tryz.func34, Tryz.ntmps34
        go_wp2_with fail
        refine (lawIn_any kSome c _ (by decide)).mono ?_
        rintro e w' ⟨rfl, rfl⟩
        go_wp2
        go_ret
        exact ⟨ret_bool (by rw [HZ.out]), rfl⟩
theorem pickOf_in (c n : Int) (hn : 0 < n) : 0 ≤ pickOf c n ∧ pickOf c n < n := by
  unfold pickOf
  split
  · rename_i h
    have h1 : 0 ≤ -(c + 1) := by omega
    rw [Int.tmod_eq_emod_of_nonneg h1]
    exact ⟨Int.emod_nonneg _ (by omega), Int.emod_lt_of_pos _ hn⟩
  · rename_i h
    have h1 : 0 ≤ c := by omega
    rw [Int.tmod_eq_emod_of_nonneg h1]
    exact ⟨Int.emod_nonneg _ (by omega), Int.emod_lt_of_pos _ hn⟩
theorem lawPick_any (c n : Int) (w : World) (hc : -9223372036854775808 ≤ c ∧ c ≤ 9223372036854775807) (hn : 0 < n) (hn2 : n ≤ 3) :
    Calls Tryz.prog 26 #[.int .i64 c, .int .i64 n] w fun e w' => e = .returned (.int .i64 (pickOf c n)) ∧ w' = w := by
  have hne : (n == 0) = false := by simp; omega
  have hp := pickOf_in c n hn
  by_cases h : c < 0
  · have e : pickOf c n = (-(c + 1)).tmod n := by unfold pickOf; rw [if_pos h]
    rw [e] at hp ⊢
    clear e
    go_enter Tryz.func26, Tryz.ntmps26
    go_wp2
    go_ret
    exact ⟨ret_int (by rw [Int.neg_tmod]), rfl⟩
  · have e : pickOf c n = c.tmod n := by unfold pickOf; rw [if_neg h]
    rw [e] at hp ⊢
    clear e
    have h' : 0 ≤ c := by omega
    go_enter Tryz.func26, Tryz.ntmps26
    go_wp2
    go_ret
    exact ⟨ret_int (by rw [Int.tmod_eq_emod_of_nonneg h']), rfl⟩
def keptL (s : ByteArray) (stage : Int) (k : Nat) : List UInt8 := (s.data.toList.take k).filter (fun c => keyOf (c.toNat : Int) stage)
def keptOf (s : ByteArray) (stage : Int) : ByteArray := ⟨(keptL s stage s.size).toArray⟩
def vals (l : List UInt8) : List Value := l.map (fun c => Value.int .u8 (c.toNat : Int))
theorem keptL_le (s : ByteArray) (stage : Int) (k : Nat) : (keptL s stage k).length ≤ k := by
  unfold keptL
  refine Nat.le_trans (List.length_filter_le _ _) ?_
  rw [List.length_take]; omega
theorem keptL_step {s : ByteArray} {stage : Int} {k : Nat} (h : k < s.size) : keptL s stage (k + 1) = keptL s stage k ++ (if keyOf ((s[k]'h).toNat : Int) stage = true then [s[k]'h] else []) := by
  unfold keptL
  have hl : k < s.data.toList.length := by rw [Array.length_toList]; exact h
  rw [List.take_add_one, List.filter_append]
  congr 1
  have e : s.data.toList[k]? = some (s[k]'h) := by
    rw [List.getElem?_eq_getElem hl]
    simp [ByteArray.getElem_eq_getElem_data]
  rw [e]
  simp [List.filter_cons]
theorem push_foldl (l : List Int) : ∀ r : ByteArray, (l.foldl (fun r n => r.push (UInt8.ofNat n.toNat)) r).data = r.data ++ (l.map (fun n => UInt8.ofNat n.toNat)).toArray := by
  induction l with
  | nil => intro r; simp
  | cons a l ih => intro r; rw [List.foldl_cons, ih]; simp [ByteArray.push]
theorem conv_own {w : World} {base n : Nat} {v : Value} {l : List UInt8} (h : w.ownsRow base 5 1 v n (vals l)) :
    (convert 48 9 v).run Tryz.prog w = .ok (.string ⟨l.toArray⟩) w := by
  have hlen := h.1
  have hcl := h
  rcases h.2 with ⟨rfl, rfl⟩ | ⟨g, cap, cur, rfl, h1, h2, h3, h4, h5, h6⟩
  · have hl : l = [] := by
      have : l.length = 0 := by simpa [vals] using hlen
      exact List.eq_nil_of_length_eq_zero this
    subst hl
    rw [run_convert_bytes_string w 48 9 5 _ _ _ (by kernel_rfl) (by kernel_rfl) (by kernel_rfl)]
    rfl
  · rw [run_convert_bytes_string w 48 9 5 _ _ _ (by kernel_rfl) (by kernel_rfl) (by kernel_rfl)]
    have hq : (loadCells ⟨g, 0, none⟩ n).run Tryz.prog w = .ok ((l.map (fun c => (c.toNat : Int))).map (Value.int .u8)).toArray w := by
      have hl := run_loadCells_list (P := Tryz.prog) w ⟨g, 0, none⟩ (vals l) (hcl.cells (g := g) rfl)
      rw [hlen, Nat.mul_one] at hl
      rw [hl]
      simp [vals, Function.comp_def]
    rw [run_bytesToString w ⟨g, 0, none⟩ n cap (l.map (fun c => (c.toNat : Int))) hq]
    congr 2
    apply ByteArray.ext
    rw [push_foldl]
    simp [Function.comp_def]
theorem lawKept_any (s : ByteArray) (stage : Int) (w : World) (hs : s.size ≤ 17592186044416) :
    Calls Tryz.prog 27 #[.string s, .int .i64 stage] w fun e w' => e = .returned (.string (keptOf s stage)) ∧ Below w.heap.size w w' := by
  obtain ⟨i0, hi, hz0, hz1, hz2⟩ := info_parts infoU8
  have HK : Hid (∀ c ww, Calls Tryz.prog 34 #[.int .u8 c, .int .i64 stage] ww fun e w' => e = .returned (.bool (keyOf c stage)) ∧ w' = ww) := fun c ww => lawKey_any c stage ww
  go_enter Tryz.func27, Tryz.ntmps27
  go_wp2
  go_loopw [5, 6] (fun v i wr => ∃ k : Nat, k ≤ s.size ∧ i = .int .i64 k ∧ wr.ownsRow w.heap.size 5 1 v (keptL s stage k).length (vals (keptL s stage k)) ∧ Below w.heap.size w wr) (fun _ i _ => s.size - (intOf i).toNat)
  case atStart => exact ⟨0, Nat.zero_le _, rfl, World.ownsRow_nil _ _ _ _, Below.refl _ _⟩
  case round =>
    obtain ⟨k, hk, rfl, hown, hB⟩ := hrel
    by_cases hlt : k < s.size
    · have HL := keptL_step (stage := stage) hlt
      have hle := keptL_le s stage k
      have hz := hB.size
      go_wp2_with fail
      refine Calls.mono (HK.out _ _) ?_
      rintro e w1 ⟨rfl, rfl⟩
      cases hq : keyOf ((s[k]'hlt).toNat : Int) stage with
      | true =>
        rw [hq, if_pos rfl] at HL
        generalize hL1 : keptL s stage k = L at *
        have HV : Hid (vals L ++ [Value.int .u8 ((s[k]'hlt).toNat : Int)] = vals (keptL s stage (k + 1))) := by rw [Hid, HL]; simp [vals]
        have HN : Hid (L.length + 1 = (keptL s stage (k + 1)).length) := by rw [Hid, HL]; simp
        generalize hL2 : keptL s stage (k + 1) = L2 at *
        have HL2 : Hid (keptL s stage (k + 1) = L2) := hL2
        clear hL2
        have HC : Hid (∀ j u, [Value.int .u8 ((s[k]'hlt).toNat : Int)][j]? = some u → (w1.alloc (.cells #[.int .u8 ((s[k]'hlt).toNat : Int)] 5)).cell? ((⟨w1.heap.size, 0, none⟩ : Addr).add j) = some u) := by
          intro j u hj
          match j, hj with
          | 0, hj => simp at hj; subst hj; simp [Addr.add]
        have hown' : Hid _ := hown
        clear hown HL hL1
        go_wp2_with (first
          | (at_builtin; refine wpList_append_own _ rfl (.tmp 20) (.tmp 24) 48 rfl w.heap.size 5 i0 (.int .u8 0) 1 1 Tryz.underlying48 hi hz0 hz1 hz2 rfl (by decide) _ L.length (vals L) rfl (World.ownsRow.alloc hown'.out _) ⟨w1.heap.size, 0, none⟩ 1 1 [.int .u8 ((s[k]'hlt).toNat : Int)] rfl rfl HC.out (by intro u hu; simp at hu; subst hu; rfl) (by unfold maxLen; omega) (by omega) (by simp; omega) ?_; intro v' w2 hown2 hgrow _)
          | fail)
        have HR : Hid (w2.ownsRow w.heap.size 5 1 v' L2.length (vals L2)) := by rw [Hid, ← HN.out, ← HV.out]; exact hown2
        have HB2 : Hid (Below w.heap.size w w2) := by
          refine ⟨hgrow.os.trans hB.os, hgrow.tape.trans hB.tape, hgrow.output.trans hB.output, by have := hgrow.size; simp at this; omega, fun j hj => ?_⟩
          rw [hgrow.block j (by simp; omega) ?_, Below.heap_alloc _ _ _ (by omega)]
          · exact hB.block j hj
          · intro he
            have := World.ownsRow.lt hown'.out j he.symm
            omega
        clear hown2 hgrow
        go_wp2
        go_roundw
        case rel => exact ⟨k + 1, by omega, by go_num, by rw [HL2.out]; exact HR.out, HB2.out⟩
        case measure => simp [intOf] <;> omega
      | false =>
        rw [hq] at HL
        simp only [Bool.false_eq_true, if_false, List.append_nil] at HL
        rw [← HL] at hown
        have hown' : Hid _ := hown
        clear hown HL
        go_wp2
        go_roundw
        case rel => exact ⟨k + 1, by omega, by go_num, hown'.out, hB⟩
        case measure => simp [intOf] <;> omega
    · have hkn : k = s.size := by omega
      subst hkn
      have hcv := conv_own hown
      go_wp2
      go_ret
      exact ⟨rfl, hB⟩
end Go.Proofs.YtlendfhehhacpaaGreat
