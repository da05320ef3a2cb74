/- A part. -/
import Derived.Test.YtlendfhehhacpaaGreatT31
set_option linter.unusedVariables false
set_option linter.unusedSimpArgs false
set_option maxRecDepth 100000
set_option maxHeartbeats 8000000
namespace Go.Proofs.YtlendfhehhacpaaGreat
open Go.RowKit Nib Tryz
theorem ext_same {s t : ByteArray} {a b n : Nat} (ha : a + n ≤ s.size) (hb : b + n ≤ t.size) (h : ∀ i, i < n → bt s (a + i) = bt t (b + i)) : s.extract a (a + n) = t.extract b (b + n) := by
 apply ByteArray.ext
 rw [ByteArray.data_extract, ByteArray.data_extract]
 have e1 : s.data.size = s.size := rfl
 have e2 : t.data.size = t.size := rfl
 apply Array.ext
 ·simp only [Array.size_extract]; omega
 ·intro i h1 h2
  simp only [Array.size_extract] at h1
  have hi := h i qo
  rw [bt_in qo, bt_in qo] at hi
  simp only [Array.getElem_extract]
  have h3 : (s[a + i]'(by omega)).toNat = (t[b + i]'(by omega)).toNat := by omega
  exact UInt8.toNat_inj.1 h3
theorem app_mkS (s t : ByteArray) : app s (mkS s t) = t := by
 have h1 := ahd_le s t
 have h2 := bhd_le s t
 have e1 : s.extract 0 (ahd s t) = t.extract 0 (ahd s t) := by
  have := ext_same (s := s) (t := t) (a := 0) (b := 0) (n := ahd s t) qo qo (fun i hi => by
   have := up_all (c := fun i => bt s i == bt t i) (n := min s.size t.size) (p := 0) (i := i) (Nat.zero_le _) hi
   simpa using this)
  simpa using this
 have e2 : s.extract (s.size - bhd s t) s.size = t.extract (t.size - bhd s t) t.size := by
  have := ext_same (s := s) (t := t) (a := s.size - bhd s t) (b := t.size - bhd s t) (n := bhd s t) qo qo (fun i hi => by
   have := up_all (c := fun i => bt s (s.size - 1 - i) == bt t (t.size - 1 - i)) (n := min s.size t.size - ahd s t) (p := 0) (i := bhd s t - 1 - i) (Nat.zero_le _) (by show bhd s t - 1 - i < bhd s t; omega)
   have h3 : s.size - 1 - (bhd s t - 1 - i) = s.size - bhd s t + i := by omega
   have h4 : t.size - 1 - (bhd s t - 1 - i) = t.size - bhd s t + i := by omega
   simpa [h3, h4] using this)
  rw [show s.size - bhd s t + bhd s t = s.size by omega, show t.size - bhd s t + bhd s t = t.size by omega] at this
  exact this
 unfold app mkS brt
 simp only
 rw [e1, e2]
 apply ByteArray.ext
 simp only [ByteArray.data_append, ByteArray.data_extract]
 have e3 : t.data.size = t.size := rfl
 rw [Array.extract_append_extract]
 rw [show min 0 (ahd s t) = 0 by omega, show max (ahd s t) (t.size - bhd s t) = t.size - bhd s t by omega]
 rw [Array.extract_append_extract]
 rw [show min 0 (t.size - bhd s t) = 0 by omega, show max (t.size - bhd s t) t.size = t.data.size by omega]
 simp
theorem OkS.keep {t now : ByteArray} {R : List Stp} (h : OkS now R) (ht : t.size ≤ 1000) (hn : now.size ≤ 1000) : OkS t (mkS t now :: R) := by
 have h1 := ahd_le t now
 have h2 := bhd_le t now
 refine ⟨by show ahd t now ≤ t.size - bhd t now; omega, by show t.size - bhd t now ≤ t.size; omega, ?_, by rw [app_mkS]; exact hn, by rw [app_mkS]; exact h⟩
 show (now.extract _ _).size ≤ 1000
 rw [ByteArray.size_extract]
 omega
theorem wlkN_forth (x : Hst) (h0 : x.1.size ≤ 1000) (h : OkS x.1 x.2.1) (hf : OkS x.1 x.2.2.reverse) : ∀ n, n ≤ x.2.1.length → OkS (wlkN n x).1 (wlkN n x).2.2.reverse := by
 intro n
 induction n with
 | zero => intro _; exact hf
 | succ n ih =>
  intro hn
  obtain ⟨o1, o2⟩ := wlkN_ok x h0 h n qo
  have o3 := ih qo
  have hl := (wlkN_len x n qo).1
  show OkS (wlk1 (wlkN n x)).1 (wlk1 (wlkN n x)).2.2.reverse
  rcases hx : wlkN n x with ⟨t, R, F⟩
  rw [hx] at o1 o2 o3 hl
  cases R with
  | nil => simp at hl; omega
  | cons st R =>
   obtain ⟨s1, s2, s3, s4, s5⟩ := o2
   show OkS (app t st) (F ++ [mkS (app t st) t]).reverse
   rw [List.reverse_append]
   exact OkS.keep o3 s4 o1
structure HfAt (w W : World) (r d g cap : Nat) (p : Pg) (x : Hst) (ov : Value) : Prop where
 rd : RdAt W r d { p with now := x.1, back := ov, forth := .slice (some ⟨g, 0, none⟩) x.2.1.length cap }
 ob : W.ownsRow 0 130 3 (.slice (some ⟨g, 0, none⟩) x.2.1.length cap) x.2.1.length (celS x.2.1.reverse)
 of : W.ownsRow 0 130 3 ov x.2.2.length (celS x.2.2)
 gd : g ≠ d
 gr : g ≠ r
 od : ov.ownBlock ≠ some d
 or : ov.ownBlock ≠ some r
 og : ov.ownBlock ≠ some g
 gl : g < W.heap.size
 fr : p.back.ownBlock = ov.ownBlock ∨ ∀ k, ov.ownBlock = some k → w.heap.size ≤ k
 up : Upd (d :: own p.back) w W
theorem HfAt.next {w wr w1 w2 w3 : World} {r d g cap g2 cap2 L : Nat} {p : Pg} {t : ByteArray} {st : Stp} {R F : List Stp} {ov : Value} {o : Obj} (h : HfAt w wr r d g cap p (t, st :: R, F) ov)
  (h1 : Below wr.drew.heap.size wr.drew w1) (h2 : Below w1.drew.heap.size w1.drew w2) (hown : w3.ownsRow 0 130 3 (.slice (some ⟨g2, 0, none⟩) (F.length + 1) cap2) (F.length + 1) (celS F ++ stp (app t st) t))
  (hgrow : (w2.alloc o).grownBy w3 ov.ownBlock) (hat : ov.ownBlock = some g2 ∨ g2 = w2.heap.size + 1) (hL : R.length = L) :
  HfAt w (((w3.setCell ⟨d, 7, none⟩ (.slice (some ⟨g, 0, none⟩) L cap)).setCell ⟨d, 6, none⟩ (.slice (some ⟨g2, 0, none⟩) (F.length + 1) cap2)).setCell ⟨d, 5, none⟩ (.string (app t st))) r d g cap p (wlk1 (t, st :: R, F)) (.slice (some ⟨g2, 0, none⟩) (F.length + 1) cap2) := by
 subst hL
 have z1 : wr.heap.size ≤ w1.heap.size := h1.size
 have z2 : w1.heap.size ≤ w2.heap.size := h2.size
 have z3 := hgrow.size
 simp at z3
 have l1 := h.rd.bg.lt
 have l2 := h.rd.dk.lt
 have l3 := h.gl
 have zu := h.up.size
 have H2 := ((((h.rd.drew).below h1).drew.below h2).alloc o)
 have H3 : RdAt w3 r d { p with now := t, back := ov, forth := .slice (some ⟨g, 0, none⟩) (R.length + 1) cap } := H2.of_block (hgrow.block r qs (Ne.symm h.or)) (hgrow.block d qs (Ne.symm h.od)) hgrow.size
 have ob3 : w3.ownsRow 0 130 3 (.slice (some ⟨g, 0, none⟩) (R.length + 1) cap) (R.length + 1) (celS (R.reverse ++ [st])) := by
  exact qt69
 have gd2 : g2 ≠ d := by
  rcases hat with e | e
  ·intro e2; rw [e2] at e; exact h.od e
  ·omega
 have gr2 : g2 ≠ r := by
  rcases hat with e | e
  ·intro e2; rw [e2] at e; exact h.or e
  ·omega
 have gg2 : g2 ≠ g := by
  rcases hat with e | e
  ·intro e2; rw [e2] at e; exact h.og e
  ·omega
 have US : Upd [d] w3 (((w3.setCell ⟨d, 7, none⟩ (.slice (some ⟨g, 0, none⟩) R.length cap)).setCell ⟨d, 6, none⟩ (.slice (some ⟨g2, 0, none⟩) (F.length + 1) cap2)).setCell ⟨d, 5, none⟩ (.string (app t st))) :=
  Upd.setCell (Upd.setCell (Upd.setCell (Upd.refl [d] _) (Or.inl qi) _) (Or.inl qi) _) (Or.inl qi) _
 refine ⟨((H3.set_forth _).set_back _).set_now _, ?_, ?_, h.gd, h.gr, ?_, ?_, ?_, ?_, ?_, ?_⟩
 ·exact qt84
 ·exact qt86
 ·simp [Value.ownBlock, gd2]
 ·simp [Value.ownBlock, gr2]
 ·simp [Value.ownBlock, gg2]
 ·have := US.size; omega
 ·exact qt83
 ·have U2 : Upd (d :: own p.back) w (w2.alloc o) := Upd.alloc (Upd.below (Upd.drew (Upd.below (Upd.drew h.up) h1)) h2) o
  exact qt66
theorem hWalkF (r d g cap : Nat) (p : Pg) (c : Nat) (x : Hst) (w : World) (h : HfAt w w r d g cap p x p.back) (hx0 : 0 < x.2.1.length) (hc : 1 ≤ c) (hx1 : x.1.size ≤ 1000) (hok : OkS x.1 x.2.1) (hm : x.2.1.length + x.2.2.length ≤ 100000) :
  Calls Tryz.prog 199 #[.pointer (some ⟨d, 5, none⟩), .int .i64 (c : Nat), .pointer (some ⟨d, 7, none⟩), .pointer (some ⟨d, 6, none⟩)] w fun e w' => e = .returned (.tuple #[.string (wlkN (min c x.2.1.length) x).1, .bool true]) ∧ ∃ ov, HfAt w w' r d g cap p (wlkN (min c x.2.1.length) x) ov := by
 have c5 := h.rd.dk.c5
 have c7 := h.rd.dk.c7
 have c6 := h.rd.dk.c6
 have fz := h.rd.dk.fz
 have hld := h.rd.dk.lt
 generalize hn : x.2.1.length = n at *
 have hn1 : (((n : Nat) : Int) == 0) = false := by simp; omega
 generalize hK : min c n = K at *
 have hKn : K ≤ n := by omega
 have hKi : min ((c : Nat) : Int) ((n : Nat) : Int) = ((K : Nat) : Int) := by omega
 all_goals
  go_enter func199, ntmps199
  go_wp2
  go_loopw [23] (fun i wr => ∃ (k : Nat) (ov : Value), k ≤ K ∧ i = .int .i64 k ∧ HfAt w wr r d g cap p (wlkN k x) ov) (fun i _ => K - (intOf i).toNat)
  case atStart => exact ⟨0, p.back, Nat.zero_le _, rfl, h⟩
  case round =>
   clear c5 c7 c6 fz hld h
   obtain ⟨k, ov, hk, rfl, h⟩ := hrel
   have c5 := h.rd.dk.c5
   have c7 := h.rd.dk.c7
   have c6 := h.rd.dk.c6
   have fz := h.rd.dk.fz
   have hld := h.rd.dk.lt
   by_cases hlt : k < K
   ·obtain ⟨hl1, hl2⟩ := wlkN_len x k qo
    obtain ⟨ho1, ho2⟩ := wlkN_ok x hx1 hok k qo
    have hs1 : wlkN (k + 1) x = wlk1 (wlkN k x) := rfl
    rcases hxk : wlkN k x with ⟨t, R, F⟩
    rw [hxk] at h hl1 hl2 ho1 ho2 hs1 c5 c7 c6
    cases R with
    | nil => simp at hl1; omega
    | cons st R =>
     obtain ⟨s1, s2, s3, s4, s5⟩ := ho2
     have HW : qH 192 #[.string t, .agg #[.int .i64 (st.i), .int .i64 (st.j)], .string st.b] (.string (app t st)) := fun ww => tWith_any t st.b _ _ st.i st.j ww ho1 qo rfl rfl s1 s2
     have HB : qH 67 #[.string (app t st), .string t] (.agg #[.int .i64 (ahd (app t st) t : Nat), .int .i64 (((app t st).size - bhd (app t st) t : Nat) : Int), .string (brt (app t st) t)]) := fun ww => hBetween (app t st) t ww s4 ho1
     have hcl := celS_last R.reverse st
     have ob := h.ob
     simp only [List.length_cons, List.reverse_cons] at ob c7 hl1
     have e0 := ob.cells (g := g) rfl _ _ hcl.1
     have e1 := ob.cells (g := g) rfl _ _ hcl.2.1
     have e2 := ob.cells (g := g) rfl _ _ hcl.2.2
     simp only [List.length_reverse] at e0 e1 e2
     have ad : ∀ j, (⟨g, 0, none⟩ : Addr).add j = ⟨g, j, none⟩ := fun j => by unfold Addr.add; split <;> simp_all
     rw [ad] at e0 e1 e2
     generalize hL : R.length = L at *
     have hklt : ((k : Nat) : Int) < ((K : Nat) : Int) := by omega
     have hl1' : Hid (L + 1 = n - k) := by rw [Hid, ← hn]; exact hl1
     have hLn : L ≤ 100000 := by have := hl1'.out; omega
     have hl2' : F.length = x.2.2.length + k := hl2
     have hFn : F.length ≤ 100000 := by have := hl1'.out; omega
     have hLc : L ≤ cap := by
      rcases ob.2 with ⟨h0, _⟩ | ⟨g', cap', cur, hv, _, _, hnc, _⟩
      ·cases h0
      ·cases hv; omega
     clear hl2 hl2'
     have hlg : g < wr.heap.size := h.gl
     have i1 : (0 : Int) ≤ ((L : Nat) : Int) := by omega
     have i2 : ((L : Nat) : Int) < ((L : Nat) : Int) + 1 := by omega
     have i3 : ((L : Nat) : Int) ≤ ((L : Nat) : Int) + 1 := by omega
     clear hl1
     go_wp2_with fail
     go_region_held3 (fun ww => ww.cell? ⟨d, 5, none⟩ = some (.string t) ∧ ww.cell? ⟨d, 7, none⟩ = some (.slice (some ⟨g, 0, none⟩) (L + 1) cap) ∧ ww.cell? ⟨g, L * 3, none⟩ = some (.int .i64 (st.i : Nat)) ∧ ww.cell? ⟨g, L * 3 + 1, none⟩ = some (.int .i64 (st.j : Nat)) ∧ ww.cell? ⟨g, L * 3 + 2, none⟩ = some (.string st.b)) (exact qK) ((go_at_call 192; refine Calls.mono (HW.out _) ?_; rintro r1 w1 ⟨rfl, h1⟩; have hz1 := h1.size; (try simp at hz1); (try have ⟨hl1_0, hk1_0⟩ := qL d w1.heap.size); (try have ⟨hl1_1, hk1_1⟩ := qL g w1.heap.size)))
     have H1 := (h.rd.drew).below h1
     have x5 := H1.dk.c5
     have x7 := H1.dk.c7
     have x6 := H1.dk.c6
     have xz := H1.dk.fz
     have xl := H1.dk.lt
     have xlr := H1.bg.lt
     have u5 : w1.drew.cell? ⟨d, 5, none⟩ = some (.string t) := memLater ((Below.refl _ _).drew) x5
     have u7 : w1.drew.cell? ⟨d, 7, none⟩ = some (.slice (some ⟨g, 0, none⟩) (L + 1) cap) := by
      have := memLater ((Below.refl _ _).drew) x7
      simp only [List.length_cons, hL] at this
      exact this
     have u6 : w1.drew.cell? ⟨d, 6, none⟩ = some ov := memLater ((Below.refl _ _).drew) x6
     have of1 : w1.ownsRow 0 130 3 ov F.length (celS F) := ownsRow_upd h.of (Upd.of_below (S := []) (Below.trans ((Below.refl _ _).drew) h1)) qi
     have ob1 : w1.ownsRow 0 130 3 (.slice (some ⟨g, 0, none⟩) (L + 1) cap) (L + 1) (celS (R.reverse ++ [st])) := ownsRow_upd ob (Upd.of_below (S := []) (Below.trans ((Below.refl _ _).drew) h1)) qi
     have hod := h.od
     have xlg : g < w1.heap.size := by omega
     obtain ⟨i0, hi, iz0, iz1, iz2⟩ := info_parts infoStep
     clear x5 x7 x6 e0 e1 e2 c5 c7 c6 fz ob1
     go_wp2_with fail
     refine wp_region_held_drew (S := fun ww => ww.cell? ⟨d, 5, none⟩ = some (.string t)) qk ?_ (fun hHeld => ?_)
     ·exact u5
     refine qT 0 ?_
     simp only [Act.put, qP]
     refine qT 1 ?_
     simp only [Act.put, qP]
     refine qT 2 ?_
     simp only [Act.put, qP]
     refine qT 3 ?_
     simp only [Act.put, qP]
     refine qT 5 ?_
     simp only [Act.put, qP]
     refine qT 7 ?_
     simp only [Act.put, qP]
     refine qT 8 ?_
     simp only [Act.put, qP]
     refine qT 10 ?_
     simp only [Act.put, qP]
     refine qT 11 ?_
     simp only [Act.put, qP]
     refine qT 12 ?_
     simp only [Act.put, qP]
     refine qT 13 ?_
     simp only [Act.put, qP]
     refine qT 14 ?_
     simp only [Act.put, qP]
     refine wpAnyH_ready (rs := [4, 9, 15]) qk qi (AllReadyH.cons rfl (fun K hK => ?_) (AllReadyH.cons rfl (fun K hK => ?_) (AllReadyH.cons rfl (fun K hK => ?_) AllReadyH.nil)))
     focus
      rw [if_pos (by rfl)]
      go_wp2_with fail
      refine hK.out _ _ u5 (fun hHeld => ?_)
      clear hK K
      try simp only [Act.put, qP]
      refine qT 6 ?_
      simp only [Act.put, qP]
     refine wpAnyH_ready (rs := [9, 15]) qk qi (AllReadyH.cons rfl (fun K hK => ?_) (AllReadyH.cons rfl (fun K hK => ?_) AllReadyH.nil))
     focus
      rw [if_pos (by rfl)]
      go_wp2_with fail
      refine hK.out _ _ u5 (fun hHeld => ?_)
      clear hK K
      try simp only [Act.put, qP]
     refine qR 15 fun K hK => ?_
     focus
      rw [if_pos (by rfl)]
      go_wp2_with fail
      refine (HB.out _).mono ?_
      rintro r2 w2 ⟨rfl, h2⟩
      have y5 := memLater h2 u5
      have y6 := memLater h2 u6
      have y7 := memLater h2 u7
      have yz : ∀ o, w2.frozen? ⟨d, o, none⟩ = false := fun o => ((bcell h2).2 d o qs).trans (xz o)
      have yh := h2.size
      (try simp at yh)
      have yl : d < w2.heap.size := by omega
      have ylr : r < w2.heap.size := by omega
      have ylg : g < w2.heap.size := by omega
      go_wp2_with fail
      refine hK.out _ _ y5 (fun hHeld => ?_)
      clear hK K
      try simp only [Act.put, qP]
     refine qR 16 fun K hK => ?_
     focus
      rw [if_pos (by rfl)]
      obtain ⟨z5, z6, z7⟩ := newStp t st y5 y6 y7
      go_wp2_with fail
      refine hK.out _ _ z5 (fun hHeld => ?_)
      clear hK K
      try simp only [Act.put, qP]
     refine qR 17 fun K hK => ?_
     focus
      rw [if_pos (by rfl)]
      refine wp_append_lies _ _ _ _ (by rfl) 0 130 i0 _ 3 32 underlying91 hi iz0 iz1 iz2 rfl qo ov F.length (celS F) (by rfl) ((ownsRow_upd of1 (Upd.of_below (S := []) (Below.trans ((Below.refl _ _).drew) h2)) qi).alloc _) ⟨w2.heap.size, 0, none⟩ 1 1 (stp (app t st) t) (by rfl) (by rfl) (World.news_of_block (cs := (stp (app t st) t).toArray) (t := 130) (fr := (0, 0)) (heap_alloc_new w2 _)) (by simp [stp, Value.oneCell']) qo qm qo (Nat.zero_le _) (w2.heap.size + 1) qi ?_
      intro g2 cap2 w3 hown3 hgrow hat hlt2
      obtain ⟨v5, v6, v7, vz⟩ := growStp hgrow hod yl z5 z6 z7 yz
      have vh := hgrow.size
      (try simp at vh)
      have vl : d < w3.heap.size := by omega
      refine hK.out _ _ v5 (fun hHeld => ?_)
      clear hK K
      try simp only [Act.put, qP]
     rotate_left
     focus
      rw [if_pos (by rfl)]
      go_wp2_with fail
      refine (HB.out _).mono ?_
      rintro r2 w2 ⟨rfl, h2⟩
      have y5 := memLater h2 u5
      have y6 := memLater h2 u6
      have y7 := memLater h2 u7
      have yz : ∀ o, w2.frozen? ⟨d, o, none⟩ = false := fun o => ((bcell h2).2 d o qs).trans (xz o)
      have yh := h2.size
      (try simp at yh)
      have yl : d < w2.heap.size := by omega
      have ylr : r < w2.heap.size := by omega
      have ylg : g < w2.heap.size := by omega
      go_wp2_with fail
      refine hK.out _ _ y5 (fun hHeld => ?_)
      clear hK K
      try simp only [Act.put, qP]
     refine wpAnyH_ready (rs := [9, 16]) qk qi (AllReadyH.cons rfl (fun K hK => ?_) (AllReadyH.cons rfl (fun K hK => ?_) AllReadyH.nil))
     focus
      rw [if_pos (by rfl)]
      go_wp2_with fail
      refine hK.out _ _ y5 (fun hHeld => ?_)
      clear hK K
      try simp only [Act.put, qP]
     refine qR 16 fun K hK => ?_
     focus
      rw [if_pos (by rfl)]
      obtain ⟨z5, z6, z7⟩ := newStp t st y5 y6 y7
      go_wp2_with fail
      refine hK.out _ _ z5 (fun hHeld => ?_)
      clear hK K
      try simp only [Act.put, qP]
     refine qR 17 fun K hK => ?_
     focus
      rw [if_pos (by rfl)]
      refine wp_append_lies _ _ _ _ (by rfl) 0 130 i0 _ 3 32 underlying91 hi iz0 iz1 iz2 rfl qo ov F.length (celS F) (by rfl) ((ownsRow_upd of1 (Upd.of_below (S := []) (Below.trans ((Below.refl _ _).drew) h2)) qi).alloc _) ⟨w2.heap.size, 0, none⟩ 1 1 (stp (app t st) t) (by rfl) (by rfl) (World.news_of_block (cs := (stp (app t st) t).toArray) (t := 130) (fr := (0, 0)) (heap_alloc_new w2 _)) (by simp [stp, Value.oneCell']) qo qm qo (Nat.zero_le _) (w2.heap.size + 1) qi ?_
      intro g2 cap2 w3 hown3 hgrow hat hlt2
      obtain ⟨v5, v6, v7, vz⟩ := growStp hgrow hod yl z5 z6 z7 yz
      have vh := hgrow.size
      (try simp at vh)
      have vl : d < w3.heap.size := by omega
      refine hK.out _ _ v5 (fun hHeld => ?_)
      clear hK K
      try simp only [Act.put, qP]
     rotate_left
     focus
      rw [if_pos (by rfl)]
      obtain ⟨z5, z6, z7⟩ := newStp t st y5 y6 y7
      go_wp2_with fail
      refine hK.out _ _ z5 (fun hHeld => ?_)
      clear hK K
      try simp only [Act.put, qP]
     refine qR 9 fun K hK => ?_
     focus
      rw [if_pos (by rfl)]
      go_wp2_with fail
      refine hK.out _ _ z5 (fun hHeld => ?_)
      clear hK K
      try simp only [Act.put, qP]
     refine qR 17 fun K hK => ?_
     focus
      rw [if_pos (by rfl)]
      refine wp_append_lies _ _ _ _ (by rfl) 0 130 i0 _ 3 32 underlying91 hi iz0 iz1 iz2 rfl qo ov F.length (celS F) (by rfl) ((ownsRow_upd of1 (Upd.of_below (S := []) (Below.trans ((Below.refl _ _).drew) h2)) qi).alloc _) ⟨w2.heap.size, 0, none⟩ 1 1 (stp (app t st) t) (by rfl) (by rfl) (World.news_of_block (cs := (stp (app t st) t).toArray) (t := 130) (fr := (0, 0)) (heap_alloc_new w2 _)) (by simp [stp, Value.oneCell']) qo qm qo (Nat.zero_le _) (w2.heap.size + 1) qi ?_
      intro g2 cap2 w3 hown3 hgrow hat hlt2
      obtain ⟨v5, v6, v7, vz⟩ := growStp hgrow hod yl z5 z6 z7 yz
      have vh := hgrow.size
      (try simp at vh)
      have vl : d < w3.heap.size := by omega
      refine hK.out _ _ v5 (fun hHeld => ?_)
      clear hK K
      try simp only [Act.put, qP]
     rotate_left
     focus
      rw [if_pos (by rfl)]
      go_wp2_with fail
      refine hK.out _ _ u5 (fun hHeld => ?_)
      clear hK K
      try simp only [Act.put, qP]
     refine wpAnyH_ready (rs := [4, 15]) qk qi (AllReadyH.cons rfl (fun K hK => ?_) (AllReadyH.cons rfl (fun K hK => ?_) AllReadyH.nil))
     focus
      rw [if_pos (by rfl)]
      go_wp2_with fail
      refine hK.out _ _ u5 (fun hHeld => ?_)
      clear hK K
      try simp only [Act.put, qP]
      refine qT 6 ?_
      simp only [Act.put, qP]
     refine qR 15 fun K hK => ?_
     focus
      rw [if_pos (by rfl)]
      go_wp2_with fail
      refine (HB.out _).mono ?_
      rintro r2 w2 ⟨rfl, h2⟩
      have y5 := memLater h2 u5
      have y6 := memLater h2 u6
      have y7 := memLater h2 u7
      have yz : ∀ o, w2.frozen? ⟨d, o, none⟩ = false := fun o => ((bcell h2).2 d o qs).trans (xz o)
      have yh := h2.size
      (try simp at yh)
      have yl : d < w2.heap.size := by omega
      have ylr : r < w2.heap.size := by omega
      have ylg : g < w2.heap.size := by omega
      go_wp2_with fail
      refine hK.out _ _ y5 (fun hHeld => ?_)
      clear hK K
      try simp only [Act.put, qP]
     refine qR 16 fun K hK => ?_
     focus
      rw [if_pos (by rfl)]
      obtain ⟨z5, z6, z7⟩ := newStp t st y5 y6 y7
      go_wp2_with fail
      refine hK.out _ _ z5 (fun hHeld => ?_)
      clear hK K
      try simp only [Act.put, qP]
     refine qR 17 fun K hK => ?_
     focus
      rw [if_pos (by rfl)]
      refine wp_append_lies _ _ _ _ (by rfl) 0 130 i0 _ 3 32 underlying91 hi iz0 iz1 iz2 rfl qo ov F.length (celS F) (by rfl) ((ownsRow_upd of1 (Upd.of_below (S := []) (Below.trans ((Below.refl _ _).drew) h2)) qi).alloc _) ⟨w2.heap.size, 0, none⟩ 1 1 (stp (app t st) t) (by rfl) (by rfl) (World.news_of_block (cs := (stp (app t st) t).toArray) (t := 130) (fr := (0, 0)) (heap_alloc_new w2 _)) (by simp [stp, Value.oneCell']) qo qm qo (Nat.zero_le _) (w2.heap.size + 1) qi ?_
      intro g2 cap2 w3 hown3 hgrow hat hlt2
      obtain ⟨v5, v6, v7, vz⟩ := growStp hgrow hod yl z5 z6 z7 yz
      have vh := hgrow.size
      (try simp at vh)
      have vl : d < w3.heap.size := by omega
      refine hK.out _ _ v5 (fun hHeld => ?_)
      clear hK K
      try simp only [Act.put, qP]
     rotate_left
     focus
      rw [if_pos (by rfl)]
      go_wp2_with fail
      refine (HB.out _).mono ?_
      rintro r2 w2 ⟨rfl, h2⟩
      have y5 := memLater h2 u5
      have y6 := memLater h2 u6
      have y7 := memLater h2 u7
      have yz : ∀ o, w2.frozen? ⟨d, o, none⟩ = false := fun o => ((bcell h2).2 d o qs).trans (xz o)
      have yh := h2.size
      (try simp at yh)
      have yl : d < w2.heap.size := by omega
      have ylr : r < w2.heap.size := by omega
      have ylg : g < w2.heap.size := by omega
      go_wp2_with fail
      refine hK.out _ _ y5 (fun hHeld => ?_)
      clear hK K
      try simp only [Act.put, qP]
     refine wpAnyH_ready (rs := [4, 16]) qk qi (AllReadyH.cons rfl (fun K hK => ?_) (AllReadyH.cons rfl (fun K hK => ?_) AllReadyH.nil))
     focus
      rw [if_pos (by rfl)]
      go_wp2_with fail
      refine hK.out _ _ y5 (fun hHeld => ?_)
      clear hK K
      try simp only [Act.put, qP]
      refine qT 6 ?_
      simp only [Act.put, qP]
     refine qR 16 fun K hK => ?_
     focus
      rw [if_pos (by rfl)]
      obtain ⟨z5, z6, z7⟩ := newStp t st y5 y6 y7
      go_wp2_with fail
      refine hK.out _ _ z5 (fun hHeld => ?_)
      clear hK K
      try simp only [Act.put, qP]
     refine qR 17 fun K hK => ?_
     focus
      rw [if_pos (by rfl)]
      refine wp_append_lies _ _ _ _ (by rfl) 0 130 i0 _ 3 32 underlying91 hi iz0 iz1 iz2 rfl qo ov F.length (celS F) (by rfl) ((ownsRow_upd of1 (Upd.of_below (S := []) (Below.trans ((Below.refl _ _).drew) h2)) qi).alloc _) ⟨w2.heap.size, 0, none⟩ 1 1 (stp (app t st) t) (by rfl) (by rfl) (World.news_of_block (cs := (stp (app t st) t).toArray) (t := 130) (fr := (0, 0)) (heap_alloc_new w2 _)) (by simp [stp, Value.oneCell']) qo qm qo (Nat.zero_le _) (w2.heap.size + 1) qi ?_
      intro g2 cap2 w3 hown3 hgrow hat hlt2
      obtain ⟨v5, v6, v7, vz⟩ := growStp hgrow hod yl z5 z6 z7 yz
      have vh := hgrow.size
      (try simp at vh)
      have vl : d < w3.heap.size := by omega
      refine hK.out _ _ v5 (fun hHeld => ?_)
      clear hK K
      try simp only [Act.put, qP]
     rotate_left
     focus
      rw [if_pos (by rfl)]
      obtain ⟨z5, z6, z7⟩ := newStp t st y5 y6 y7
      go_wp2_with fail
      refine hK.out _ _ z5 (fun hHeld => ?_)
      clear hK K
      try simp only [Act.put, qP]
     refine wpAnyH_ready (rs := [4, 17]) qk qi (AllReadyH.cons rfl (fun K hK => ?_) (AllReadyH.cons rfl (fun K hK => ?_) AllReadyH.nil))
     focus
      rw [if_pos (by rfl)]
      go_wp2_with fail
      refine hK.out _ _ z5 (fun hHeld => ?_)
      clear hK K
      try simp only [Act.put, qP]
      refine qT 6 ?_
      simp only [Act.put, qP]
     refine qR 17 fun K hK => ?_
     focus
      rw [if_pos (by rfl)]
      refine wp_append_lies _ _ _ _ (by rfl) 0 130 i0 _ 3 32 underlying91 hi iz0 iz1 iz2 rfl qo ov F.length (celS F) (by rfl) ((ownsRow_upd of1 (Upd.of_below (S := []) (Below.trans ((Below.refl _ _).drew) h2)) qi).alloc _) ⟨w2.heap.size, 0, none⟩ 1 1 (stp (app t st) t) (by rfl) (by rfl) (World.news_of_block (cs := (stp (app t st) t).toArray) (t := 130) (fr := (0, 0)) (heap_alloc_new w2 _)) (by simp [stp, Value.oneCell']) qo qm qo (Nat.zero_le _) (w2.heap.size + 1) qi ?_
      intro g2 cap2 w3 hown3 hgrow hat hlt2
      obtain ⟨v5, v6, v7, vz⟩ := growStp hgrow hod yl z5 z6 z7 yz
      have vh := hgrow.size
      (try simp at vh)
      have vl : d < w3.heap.size := by omega
      refine hK.out _ _ v5 (fun hHeld => ?_)
      clear hK K
      try simp only [Act.put, qP]
     rotate_left
     focus
      rw [if_pos (by rfl)]
      refine wp_append_lies _ _ _ _ (by rfl) 0 130 i0 _ 3 32 underlying91 hi iz0 iz1 iz2 rfl qo ov F.length (celS F) (by rfl) ((ownsRow_upd of1 (Upd.of_below (S := []) (Below.trans ((Below.refl _ _).drew) h2)) qi).alloc _) ⟨w2.heap.size, 0, none⟩ 1 1 (stp (app t st) t) (by rfl) (by rfl) (World.news_of_block (cs := (stp (app t st) t).toArray) (t := 130) (fr := (0, 0)) (heap_alloc_new w2 _)) (by simp [stp, Value.oneCell']) qo qm qo (Nat.zero_le _) (w2.heap.size + 1) qi ?_
      intro g2 cap2 w3 hown3 hgrow hat hlt2
      obtain ⟨v5, v6, v7, vz⟩ := growStp hgrow hod yl z5 z6 z7 yz
      have vh := hgrow.size
      (try simp at vh)
      have vl : d < w3.heap.size := by omega
      refine hK.out _ _ v5 (fun hHeld => ?_)
      clear hK K
      try simp only [Act.put, qP]
     refine qR 4 fun K hK => ?_
     focus
      rw [if_pos (by rfl)]
      go_wp2_with fail
      refine hK.out _ _ v5 (fun hHeld => ?_)
      clear hK K
      try simp only [Act.put, qP]
      refine qT 6 ?_
      simp only [Act.put, qP]
     rotate_left
     focus
      rw [if_pos (by rfl)]
      go_wp2_with fail
      refine (HB.out _).mono ?_
      rintro r2 w2 ⟨rfl, h2⟩
      have y5 := memLater h2 u5
      have y6 := memLater h2 u6
      have y7 := memLater h2 u7
      have yz : ∀ o, w2.frozen? ⟨d, o, none⟩ = false := fun o => ((bcell h2).2 d o qs).trans (xz o)
      have yh := h2.size
      (try simp at yh)
      have yl : d < w2.heap.size := by omega
      have ylr : r < w2.heap.size := by omega
      have ylg : g < w2.heap.size := by omega
      go_wp2_with fail
      refine hK.out _ _ y5 (fun hHeld => ?_)
      clear hK K
      try simp only [Act.put, qP]
     refine wpAnyH_ready (rs := [4, 9, 16]) qk qi (AllReadyH.cons rfl (fun K hK => ?_) (AllReadyH.cons rfl (fun K hK => ?_) (AllReadyH.cons rfl (fun K hK => ?_) AllReadyH.nil)))
     focus
      rw [if_pos (by rfl)]
      go_wp2_with fail
      refine hK.out _ _ y5 (fun hHeld => ?_)
      clear hK K
      try simp only [Act.put, qP]
      refine qT 6 ?_
      simp only [Act.put, qP]
     refine wpAnyH_ready (rs := [9, 16]) qk qi (AllReadyH.cons rfl (fun K hK => ?_) (AllReadyH.cons rfl (fun K hK => ?_) AllReadyH.nil))
     focus
      rw [if_pos (by rfl)]
      go_wp2_with fail
      refine hK.out _ _ y5 (fun hHeld => ?_)
      clear hK K
      try simp only [Act.put, qP]
     refine qR 16 fun K hK => ?_
     focus
      rw [if_pos (by rfl)]
      obtain ⟨z5, z6, z7⟩ := newStp t st y5 y6 y7
      go_wp2_with fail
      refine hK.out _ _ z5 (fun hHeld => ?_)
      clear hK K
      try simp only [Act.put, qP]
     refine qR 17 fun K hK => ?_
     focus
      rw [if_pos (by rfl)]
      refine wp_append_lies _ _ _ _ (by rfl) 0 130 i0 _ 3 32 underlying91 hi iz0 iz1 iz2 rfl qo ov F.length (celS F) (by rfl) ((ownsRow_upd of1 (Upd.of_below (S := []) (Below.trans ((Below.refl _ _).drew) h2)) qi).alloc _) ⟨w2.heap.size, 0, none⟩ 1 1 (stp (app t st) t) (by rfl) (by rfl) (World.news_of_block (cs := (stp (app t st) t).toArray) (t := 130) (fr := (0, 0)) (heap_alloc_new w2 _)) (by simp [stp, Value.oneCell']) qo qm qo (Nat.zero_le _) (w2.heap.size + 1) qi ?_
      intro g2 cap2 w3 hown3 hgrow hat hlt2
      obtain ⟨v5, v6, v7, vz⟩ := growStp hgrow hod yl z5 z6 z7 yz
      have vh := hgrow.size
      (try simp at vh)
      have vl : d < w3.heap.size := by omega
      refine hK.out _ _ v5 (fun hHeld => ?_)
      clear hK K
      try simp only [Act.put, qP]
     rotate_left
     focus
      rw [if_pos (by rfl)]
      obtain ⟨z5, z6, z7⟩ := newStp t st y5 y6 y7
      go_wp2_with fail
      refine hK.out _ _ z5 (fun hHeld => ?_)
      clear hK K
      try simp only [Act.put, qP]
     refine qR 9 fun K hK => ?_
     focus
      rw [if_pos (by rfl)]
      go_wp2_with fail
      refine hK.out _ _ z5 (fun hHeld => ?_)
      clear hK K
      try simp only [Act.put, qP]
     refine qR 17 fun K hK => ?_
     focus
      rw [if_pos (by rfl)]
      refine wp_append_lies _ _ _ _ (by rfl) 0 130 i0 _ 3 32 underlying91 hi iz0 iz1 iz2 rfl qo ov F.length (celS F) (by rfl) ((ownsRow_upd of1 (Upd.of_below (S := []) (Below.trans ((Below.refl _ _).drew) h2)) qi).alloc _) ⟨w2.heap.size, 0, none⟩ 1 1 (stp (app t st) t) (by rfl) (by rfl) (World.news_of_block (cs := (stp (app t st) t).toArray) (t := 130) (fr := (0, 0)) (heap_alloc_new w2 _)) (by simp [stp, Value.oneCell']) qo qm qo (Nat.zero_le _) (w2.heap.size + 1) qi ?_
      intro g2 cap2 w3 hown3 hgrow hat hlt2
      obtain ⟨v5, v6, v7, vz⟩ := growStp hgrow hod yl z5 z6 z7 yz
      have vh := hgrow.size
      (try simp at vh)
      have vl : d < w3.heap.size := by omega
      refine hK.out _ _ v5 (fun hHeld => ?_)
      clear hK K
      try simp only [Act.put, qP]
     rotate_left
     focus
      rw [if_pos (by rfl)]
      go_wp2_with fail
      refine hK.out _ _ y5 (fun hHeld => ?_)
      clear hK K
      try simp only [Act.put, qP]
     refine wpAnyH_ready (rs := [4, 16]) qk qi (AllReadyH.cons rfl (fun K hK => ?_) (AllReadyH.cons rfl (fun K hK => ?_) AllReadyH.nil))
     focus
      rw [if_pos (by rfl)]
      go_wp2_with fail
      refine hK.out _ _ y5 (fun hHeld => ?_)
      clear hK K
      try simp only [Act.put, qP]
      refine qT 6 ?_
      simp only [Act.put, qP]
     refine qR 16 fun K hK => ?_
     focus
      rw [if_pos (by rfl)]
      obtain ⟨z5, z6, z7⟩ := newStp t st y5 y6 y7
      go_wp2_with fail
      refine hK.out _ _ z5 (fun hHeld => ?_)
      clear hK K
      try simp only [Act.put, qP]
     refine qR 17 fun K hK => ?_
     focus
      rw [if_pos (by rfl)]
      refine wp_append_lies _ _ _ _ (by rfl) 0 130 i0 _ 3 32 underlying91 hi iz0 iz1 iz2 rfl qo ov F.length (celS F) (by rfl) ((ownsRow_upd of1 (Upd.of_below (S := []) (Below.trans ((Below.refl _ _).drew) h2)) qi).alloc _) ⟨w2.heap.size, 0, none⟩ 1 1 (stp (app t st) t) (by rfl) (by rfl) (World.news_of_block (cs := (stp (app t st) t).toArray) (t := 130) (fr := (0, 0)) (heap_alloc_new w2 _)) (by simp [stp, Value.oneCell']) qo qm qo (Nat.zero_le _) (w2.heap.size + 1) qi ?_
      intro g2 cap2 w3 hown3 hgrow hat hlt2
      obtain ⟨v5, v6, v7, vz⟩ := growStp hgrow hod yl z5 z6 z7 yz
      have vh := hgrow.size
      (try simp at vh)
      have vl : d < w3.heap.size := by omega
      refine hK.out _ _ v5 (fun hHeld => ?_)
      clear hK K
      try simp only [Act.put, qP]
     rotate_left
     focus
      rw [if_pos (by rfl)]
      obtain ⟨z5, z6, z7⟩ := newStp t st y5 y6 y7
      go_wp2_with fail
      refine hK.out _ _ z5 (fun hHeld => ?_)
      clear hK K
      try simp only [Act.put, qP]
     refine wpAnyH_ready (rs := [4, 17]) qk qi (AllReadyH.cons rfl (fun K hK => ?_) (AllReadyH.cons rfl (fun K hK => ?_) AllReadyH.nil))
     focus
      rw [if_pos (by rfl)]
      go_wp2_with fail
      refine hK.out _ _ z5 (fun hHeld => ?_)
      clear hK K
      try simp only [Act.put, qP]
      refine qT 6 ?_
      simp only [Act.put, qP]
     refine qR 17 fun K hK => ?_
     focus
      rw [if_pos (by rfl)]
      refine wp_append_lies _ _ _ _ (by rfl) 0 130 i0 _ 3 32 underlying91 hi iz0 iz1 iz2 rfl qo ov F.length (celS F) (by rfl) ((ownsRow_upd of1 (Upd.of_below (S := []) (Below.trans ((Below.refl _ _).drew) h2)) qi).alloc _) ⟨w2.heap.size, 0, none⟩ 1 1 (stp (app t st) t) (by rfl) (by rfl) (World.news_of_block (cs := (stp (app t st) t).toArray) (t := 130) (fr := (0, 0)) (heap_alloc_new w2 _)) (by simp [stp, Value.oneCell']) qo qm qo (Nat.zero_le _) (w2.heap.size + 1) qi ?_
      intro g2 cap2 w3 hown3 hgrow hat hlt2
      obtain ⟨v5, v6, v7, vz⟩ := growStp hgrow hod yl z5 z6 z7 yz
      have vh := hgrow.size
      (try simp at vh)
      have vl : d < w3.heap.size := by omega
      refine hK.out _ _ v5 (fun hHeld => ?_)
      clear hK K
      try simp only [Act.put, qP]
     rotate_left
     focus
      rw [if_pos (by rfl)]
      refine wp_append_lies _ _ _ _ (by rfl) 0 130 i0 _ 3 32 underlying91 hi iz0 iz1 iz2 rfl qo ov F.length (celS F) (by rfl) ((ownsRow_upd of1 (Upd.of_below (S := []) (Below.trans ((Below.refl _ _).drew) h2)) qi).alloc _) ⟨w2.heap.size, 0, none⟩ 1 1 (stp (app t st) t) (by rfl) (by rfl) (World.news_of_block (cs := (stp (app t st) t).toArray) (t := 130) (fr := (0, 0)) (heap_alloc_new w2 _)) (by simp [stp, Value.oneCell']) qo qm qo (Nat.zero_le _) (w2.heap.size + 1) qi ?_
      intro g2 cap2 w3 hown3 hgrow hat hlt2
      obtain ⟨v5, v6, v7, vz⟩ := growStp hgrow hod yl z5 z6 z7 yz
      have vh := hgrow.size
      (try simp at vh)
      have vl : d < w3.heap.size := by omega
      refine hK.out _ _ v5 (fun hHeld => ?_)
      clear hK K
      try simp only [Act.put, qP]
     refine qR 4 fun K hK => ?_
     focus
      rw [if_pos (by rfl)]
      go_wp2_with fail
      refine hK.out _ _ v5 (fun hHeld => ?_)
      clear hK K
      try simp only [Act.put, qP]
      refine qT 6 ?_
      simp only [Act.put, qP]
     rotate_left
     focus
      rw [if_pos (by rfl)]
      obtain ⟨z5, z6, z7⟩ := newStp t st y5 y6 y7
      go_wp2_with fail
      refine hK.out _ _ z5 (fun hHeld => ?_)
      clear hK K
      try simp only [Act.put, qP]
     refine wpAnyH_ready (rs := [4, 9]) qk qi (AllReadyH.cons rfl (fun K hK => ?_) (AllReadyH.cons rfl (fun K hK => ?_) AllReadyH.nil))
     focus
      rw [if_pos (by rfl)]
      go_wp2_with fail
      refine hK.out _ _ z5 (fun hHeld => ?_)
      clear hK K
      try simp only [Act.put, qP]
      refine qT 6 ?_
      simp only [Act.put, qP]
     refine qR 9 fun K hK => ?_
     focus
      rw [if_pos (by rfl)]
      go_wp2_with fail
      refine hK.out _ _ z5 (fun hHeld => ?_)
      clear hK K
      try simp only [Act.put, qP]
     refine qR 17 fun K hK => ?_
     focus
      rw [if_pos (by rfl)]
      refine wp_append_lies _ _ _ _ (by rfl) 0 130 i0 _ 3 32 underlying91 hi iz0 iz1 iz2 rfl qo ov F.length (celS F) (by rfl) ((ownsRow_upd of1 (Upd.of_below (S := []) (Below.trans ((Below.refl _ _).drew) h2)) qi).alloc _) ⟨w2.heap.size, 0, none⟩ 1 1 (stp (app t st) t) (by rfl) (by rfl) (World.news_of_block (cs := (stp (app t st) t).toArray) (t := 130) (fr := (0, 0)) (heap_alloc_new w2 _)) (by simp [stp, Value.oneCell']) qo qm qo (Nat.zero_le _) (w2.heap.size + 1) qi ?_
      intro g2 cap2 w3 hown3 hgrow hat hlt2
      obtain ⟨v5, v6, v7, vz⟩ := growStp hgrow hod yl z5 z6 z7 yz
      have vh := hgrow.size
      (try simp at vh)
      have vl : d < w3.heap.size := by omega
      refine hK.out _ _ v5 (fun hHeld => ?_)
      clear hK K
      try simp only [Act.put, qP]
     rotate_left
     focus
      rw [if_pos (by rfl)]
      go_wp2_with fail
      refine hK.out _ _ z5 (fun hHeld => ?_)
      clear hK K
      try simp only [Act.put, qP]
     refine wpAnyH_ready (rs := [4, 17]) qk qi (AllReadyH.cons rfl (fun K hK => ?_) (AllReadyH.cons rfl (fun K hK => ?_) AllReadyH.nil))
     focus
      rw [if_pos (by rfl)]
      go_wp2_with fail
      refine hK.out _ _ z5 (fun hHeld => ?_)
      clear hK K
      try simp only [Act.put, qP]
      refine qT 6 ?_
      simp only [Act.put, qP]
     refine qR 17 fun K hK => ?_
     focus
      rw [if_pos (by rfl)]
      refine wp_append_lies _ _ _ _ (by rfl) 0 130 i0 _ 3 32 underlying91 hi iz0 iz1 iz2 rfl qo ov F.length (celS F) (by rfl) ((ownsRow_upd of1 (Upd.of_below (S := []) (Below.trans ((Below.refl _ _).drew) h2)) qi).alloc _) ⟨w2.heap.size, 0, none⟩ 1 1 (stp (app t st) t) (by rfl) (by rfl) (World.news_of_block (cs := (stp (app t st) t).toArray) (t := 130) (fr := (0, 0)) (heap_alloc_new w2 _)) (by simp [stp, Value.oneCell']) qo qm qo (Nat.zero_le _) (w2.heap.size + 1) qi ?_
      intro g2 cap2 w3 hown3 hgrow hat hlt2
      obtain ⟨v5, v6, v7, vz⟩ := growStp hgrow hod yl z5 z6 z7 yz
      have vh := hgrow.size
      (try simp at vh)
      have vl : d < w3.heap.size := by omega
      refine hK.out _ _ v5 (fun hHeld => ?_)
      clear hK K
      try simp only [Act.put, qP]
     rotate_left
     focus
      rw [if_pos (by rfl)]
      refine wp_append_lies _ _ _ _ (by rfl) 0 130 i0 _ 3 32 underlying91 hi iz0 iz1 iz2 rfl qo ov F.length (celS F) (by rfl) ((ownsRow_upd of1 (Upd.of_below (S := []) (Below.trans ((Below.refl _ _).drew) h2)) qi).alloc _) ⟨w2.heap.size, 0, none⟩ 1 1 (stp (app t st) t) (by rfl) (by rfl) (World.news_of_block (cs := (stp (app t st) t).toArray) (t := 130) (fr := (0, 0)) (heap_alloc_new w2 _)) (by simp [stp, Value.oneCell']) qo qm qo (Nat.zero_le _) (w2.heap.size + 1) qi ?_
      intro g2 cap2 w3 hown3 hgrow hat hlt2
      obtain ⟨v5, v6, v7, vz⟩ := growStp hgrow hod yl z5 z6 z7 yz
      have vh := hgrow.size
      (try simp at vh)
      have vl : d < w3.heap.size := by omega
      refine hK.out _ _ v5 (fun hHeld => ?_)
      clear hK K
      try simp only [Act.put, qP]
     refine qR 4 fun K hK => ?_
     focus
      rw [if_pos (by rfl)]
      go_wp2_with fail
      refine hK.out _ _ v5 (fun hHeld => ?_)
      clear hK K
      try simp only [Act.put, qP]
      refine qT 6 ?_
      simp only [Act.put, qP]
     rotate_left
     all_goals
      refine qT 18 ?_
      simp only [Act.put, qP]
      refine qR 19 fun K hK => ?_
      rw [if_pos (by rfl)]
      go_wp2_with fail
      refine hK.out _ _ ?_ (fun hHeld => ?_)
      ·go_simp
      clear hK K
      try simp only [Act.put, qP]
      refine qT 20 ?_
      simp only [Act.put, qP]
      refine qR 21 fun K hK => ?_
      rw [if_pos (by rfl)]
      go_wp2_with fail
      refine hK.out _ _ ?_ (fun hHeld => ?_)
      ·go_simp
      clear hK K
      try simp only [Act.put, qP]
      refine wpAnyH_done qk ?_ _
      go_wp2
      refine ⟨⟨k + 1, .slice (some ⟨g2, 0, none⟩) (F.length + 1) cap2, by omega, by go_num, ?_⟩, ?_⟩
      ·rw [hs1]; exact HfAt.next h h1 h2 hown3 hgrow hat hL
      ·simp [intOf] <;> omega
   ·have hkK : k = K := by omega
    subst hkK
    go_wp2
    go_ret2
    exact ⟨rfl, ov, h⟩
theorem HfAt.base {w v W : World} {r d g cap : Nat} {p : Pg} {x : Hst} {ov : Value} (h : HfAt v W r d g cap p x ov) (hu : Upd [] w v) : HfAt w W r d g cap p x ov :=
 ⟨h.rd, h.ob, h.of, h.gd, h.gr, h.od, h.or, h.og, h.gl, h.fr.imp id (fun f k hk => Nat.le_trans hu.size (f k hk)), (hu.mono qi).trans h.up⟩
theorem HfAt.start {w v : World} {r d g cap : Nat} {p : Pg} {x : Hst} (h : HfAt w w r d g cap p x p.back) (hb : Below w.heap.size w v) : HfAt v v r d g cap p x p.back :=
 ⟨h.rd.below hb, ownsRow_upd h.ob (Upd.of_below (S := []) hb) qi, ownsRow_upd h.of (Upd.of_below (S := []) hb) qi, h.gd, h.gr, h.od, h.or, h.og, Nat.lt_of_lt_of_le h.gl hb.size, Or.inl rfl, Upd.refl _ _⟩
theorem hRedo (r d g cap : Nat) (p : Pg) (c : Nat) (x : Hst) (w : World) (h : HfAt w w r d g cap p x p.back) (hx0 : 0 < x.2.1.length) (hc : 1 ≤ c) (hx1 : x.1.size ≤ 1000) (hok : OkS x.1 x.2.1) (hm : x.2.1.length + x.2.2.length ≤ 100000) :
  Calls Tryz.prog 162 #[.pointer (some ⟨d, 5, none⟩), .int .i64 (c : Nat)] w fun e w' => e = .returned (.tuple #[.string (wlkN (min c x.2.1.length) x).1, .bool true]) ∧ ∃ ov, HfAt w w' r d g cap p (wlkN (min c x.2.1.length) x) ov := by
 have HW := hWalkF r d g cap p c x w.drew (h.start (Below.refl _ _).drew) hx0 hc hx1 hok hm
 generalize wlkN (min c x.2.1.length) x = y at *
 go_enter func162, ntmps162
 exact qt87
theorem HfAt.desk {w W W' : World} {r d g cap : Nat} {p p' : Pg} {x : Hst} {ov : Value} (h : HfAt w W r d g cap p x ov) (hu : Upd [d] W W') (hf : p'.back = p.back)
  (hr : RdAt W' r d { p' with now := x.1, back := ov, forth := .slice (some ⟨g, 0, none⟩) x.2.1.length cap }) : HfAt w W' r d g cap p' x ov :=
 ⟨hr, ownsRow_upd h.ob hu (by intro k hk; simp at hk; subst hk; simp [Value.ownBlock, h.gd]), ownsRow_upd h.of hu (by intro k hk; simp at hk; subst hk; exact h.od), h.gd, h.gr, h.od, h.or, h.og, Nat.lt_of_lt_of_le h.gl hu.size, by rw [hf]; exact h.fr, by rw [hf]; exact h.up.trans (hu.mono qi)⟩
theorem mCommand_redo (r d g cap : Nat) (p : Pg) (x : Hst) (w : World) (h : HfAt w w r d g cap p x p.back) (hx0 : 0 < x.2.1.length) (hx1 : x.1.size ≤ 1000) (hok : OkS x.1 x.2.1) (hm : x.2.1.length + x.2.2.length ≤ 100000) (hs : p.t.size ≤ 1000) (hn : p.n ≤ 99) (hb : p.behind ≤ 99) :
  Calls Tryz.prog 141 #[.agg #[.pointer (some ⟨r, 0, none⟩)], .int .u8 18] w fun e w' => e = .returned (.int .i64 1) ∧ ∃ ov, HfAt w w' r d g cap (goT p (wlkN (min (max (cnt p) 1) x.2.1.length) x).1) (wlkN (min (max (cnt p) 1) x.2.1.length) x) ov := by
 have HT : Hid (∀ ww, RdAt ww r d { p with now := x.1, back := p.back, forth := .slice (some ⟨g, 0, none⟩) x.2.1.length cap } → qC 161 #[.pointer (some ⟨r, 1, none⟩)] ww (.int .i64 (max (cnt p) 1 : Nat))) := fun ww hh => mTimes r d { p with now := x.1, back := p.back, forth := .slice (some ⟨g, 0, none⟩) x.2.1.length cap } ww hh hn hb
 generalize hN : max (cnt p) 1 = N at *
 have hN1 : 1 ≤ N := by omega
 have H := h.rd
 have r0 := H.bg.c0
 have hlr := H.bg.lt
 have hld := H.dk.lt
 have l1 : r < w.heap.size + 1 := by omega
 have l2 : d < w.heap.size + 1 := by omega
 have hfl : ∀ k, p.back.ownBlock = some k → k < w.heap.size := fun k hk => (h.of.lt k hk).2
 have HU : Hid (∀ v, Below w.heap.size w v → Calls Tryz.prog 162 #[.pointer (some ⟨d, 5, none⟩), .int .i64 (N : Nat)] v fun e w' => e = .returned (.tuple #[.string (wlkN (min N x.2.1.length) x).1, .bool true]) ∧ ∃ ov, HfAt v w' r d g cap p (wlkN (min N x.2.1.length) x) ov) := fun v hv => hRedo r d g cap p N x v (h.start hv) hx0 hN1 hx1 hok hm
 have hy1 := (wlkN_ok x hx1 hok (min N x.2.1.length) qo).1
 generalize wlkN (min N x.2.1.length) x = y at *
 have hgt : ∀ ov, goT { p with now := y.1, back := ov, forth := .slice (some ⟨g, 0, none⟩) y.2.1.length cap } y.1 = { goT p y.1 with now := y.1, back := ov, forth := .slice (some ⟨g, 0, none⟩) y.2.1.length cap } := by
  intro ov
  unfold goT
  split <;> rfl
 have HG : Hid (∀ ov ww, RdAt ww r d { p with now := y.1, back := ov, forth := .slice (some ⟨g, 0, none⟩) y.2.1.length cap } → Calls Tryz.prog 159 #[.agg #[.pointer (some ⟨r, 0, none⟩)], .string y.1, .bool true] ww fun e w' => e = .returned (.int .i64 1) ∧ RdAt w' r d { goT p y.1 with now := y.1, back := ov, forth := .slice (some ⟨g, 0, none⟩) y.2.1.length cap } ∧ Upd [d] ww w') := by
  intro ov ww hh
  have := mGoTo_any r d _ y.1 ww hh hs hy1
  rw [hgt ov] at this
  exact this
 have hfp : (goT p y.1).back = p.back := by unfold goT; split <;> rfl
 generalize goT p y.1 = P3 at *
 clear hgt
 go_enter func141, ntmps141
 have g0 : (w.alloc (.cells #[.pointer (some ⟨r, 0, none⟩)] 77)).cell? ⟨w.heap.size, 0, none⟩ = some (.pointer (some ⟨r, 0, none⟩)) := by simp
 go_wp2_with fail
 go_region_held3 (fun ww => ww.cell? ⟨w.heap.size, 0, none⟩ = some (.pointer (some ⟨r, 0, none⟩)) ∧ ww.cell? ⟨r, 0, none⟩ = some (.pointer (some ⟨d, 0, none⟩))) (exact qK) (first | (go_at_call 161; refine Calls.mono (HT.out _ qRd) ?_; rintro e1 w1 ⟨rfl, h1⟩; have hz1 := h1.size; (try simp at hz1)) | (go_at_call 162; refine Calls.mono (HU.out w1 qB) ?_; rintro e2 w2 ⟨rfl, ov, h2⟩; have s0 := h2.rd.bg.c0; have s1 := h2.up.was (b := w.heap.size) (o := 0) (v := .pointer (some ⟨r, 0, none⟩)) qM (by intro hk; rcases List.mem_cons.1 hk with hk | hk; (omega); (have := hfl _ (mem_ownC.1 hk); omega))) | (go_at_call 159; refine Calls.mono (HG.out ov w2 h2.rd) ?_; rintro e3 w3 ⟨rfl, h3, u3⟩; have q0 := h3.bg.c0; have q1 := u3.was (b := w.heap.size) (o := 0) (v := .pointer (some ⟨r, 0, none⟩)) (by assumption) qs))
 go_wp2
 go_ret
 refine ⟨rfl, ov, ?_⟩
 refine HfAt.base (v := w1) (HfAt.desk h2 u3 hfp h3) (Upd.of_below ?_)
 repeat exact qB
theorem mGoTo_no (r : Nat) (t : ByteArray) (w : World) :
  qC 159 #[.agg #[.pointer (some ⟨r, 0, none⟩)], .string t, .bool false] w (.int .i64 4) := by
 go_enter func159, ntmps159
 go_wp2
 go_ret
 exact ⟨rfl, (Below.refl _ _).alloc (Nat.le_refl _) _⟩
theorem hWalk_no (r d : Nat) (p : Pg) (c : Int) (a : Option Addr) (cap : Nat) (w : World) (h : RdAt w r d p) (hb : p.back = .slice a 0 cap) :
  qC 199 #[.pointer (some ⟨d, 5, none⟩), .int .i64 c, .pointer (some ⟨d, 6, none⟩), .pointer (some ⟨d, 7, none⟩)] w (.tuple #[.string ⟨#[]⟩, .bool false]) := by
 have c6 := h.dk.c6
 rw [hb] at c6
 have hld := h.dk.lt
 clear h hb
 go_enter func199, ntmps199
 go_wp2
 go_ret2
 exact ⟨rfl, Below.refl _ _⟩
theorem hUndo_no (r d : Nat) (p : Pg) (c : Int) (a : Option Addr) (cap : Nat) (w : World) (h : RdAt w r d p) (hb : p.back = .slice a 0 cap) :
  qC 160 #[.pointer (some ⟨d, 5, none⟩), .int .i64 c] w (.tuple #[.string ⟨#[]⟩, .bool false]) := by
 have HW := hWalk_no r d p c a cap w.drew (h.below (Below.refl _ _).drew) hb
 clear h hb
 go_enter func160, ntmps160
 go_wp2_with fail
 go_region_held3 (fun ww => ∃ z, Hid (ww.os = z)) ((exact ⟨_, rfl⟩)) ((go_at_call 199; refine Calls.mono HW ?_; rintro e w1 ⟨rfl, h1⟩))
 go_wp2
 go_ret2
 exact ⟨rfl, (Below.refl _ _).drew.trans h1⟩
theorem mCommand_u_no (r d : Nat) (p : Pg) (a : Option Addr) (cap : Nat) (w : World) (h : RdAt w r d p) (hb : p.back = .slice a 0 cap) (hn : p.n ≤ 99) (hbh : p.behind ≤ 99) :
  qC 141 #[.agg #[.pointer (some ⟨r, 0, none⟩)], .int .u8 117] w (.int .i64 4) := by
 have HT : Hid (∀ ww, RdAt ww r d p → qC 161 #[.pointer (some ⟨r, 1, none⟩)] ww (.int .i64 (max (cnt p) 1 : Nat))) := fun ww hh => mTimes r d p ww hh hn hbh
 generalize hN : max (cnt p) 1 = N at *
 clear hN
 have HU : Hid (∀ ww, RdAt ww r d p → qC 160 #[.pointer (some ⟨d, 5, none⟩), .int .i64 (N : Nat)] ww (.tuple #[.string ⟨#[]⟩, .bool false])) := fun ww hh => hUndo_no r d p N a cap ww hh hb
 have HG : qH 159 #[.agg #[.pointer (some ⟨r, 0, none⟩)], .string ⟨#[]⟩, .bool false] (.int .i64 4) := fun ww => mGoTo_no r ⟨#[]⟩ ww
 have H := h
 have r0 := H.bg.c0
 have hlr := H.bg.lt
 have hld := H.dk.lt
 have l1 : r < w.heap.size + 1 := by omega
 have l2 : d < w.heap.size + 1 := by omega
 clear h hb
 go_enter func141, ntmps141
 go_wp2_with fail
 have g0 : (w.alloc (.cells #[.pointer (some ⟨r, 0, none⟩)] 77)).cell? ⟨w.heap.size, 0, none⟩ = some (.pointer (some ⟨r, 0, none⟩)) := by simp
 go_region_held3 (fun ww => ww.cell? ⟨w.heap.size, 0, none⟩ = some (.pointer (some ⟨r, 0, none⟩)) ∧ ww.cell? ⟨r, 0, none⟩ = some (.pointer (some ⟨d, 0, none⟩))) (exact qK) (first | (go_at_call 161; refine Calls.mono (HT.out _ qRd) ?_; rintro e1 w1 ⟨rfl, h1⟩; have hz1 := h1.size; (try simp at hz1)) | (go_at_call 160; refine Calls.mono (HU.out w1 qRd) ?_; rintro e2 w2 ⟨rfl, h2⟩; have hz2 := h2.size; have s0 : w2.cell? ⟨r, 0, none⟩ = some (.pointer (some ⟨d, 0, none⟩)) := memLater h2 qM; have s1 : w2.cell? ⟨w.heap.size, 0, none⟩ = some (.pointer (some ⟨r, 0, none⟩)) := memLater h2 qM) | (go_at_call 159; refine Calls.mono (HG.out w2) ?_; rintro e3 w3 ⟨rfl, h3⟩; have q0 := memLater h3 s0; have q1 := memLater h3 s1))
 go_wp2
 go_ret
 refine ⟨rfl, ?_⟩
 repeat exact qB
theorem hWalkF_no (r d : Nat) (p : Pg) (c : Int) (a : Option Addr) (cap : Nat) (w : World) (h : RdAt w r d p) (hb : p.forth = .slice a 0 cap) :
  qC 199 #[.pointer (some ⟨d, 5, none⟩), .int .i64 c, .pointer (some ⟨d, 7, none⟩), .pointer (some ⟨d, 6, none⟩)] w (.tuple #[.string ⟨#[]⟩, .bool false]) := by
 have c6 := h.dk.c7
 rw [hb] at c6
 have hld := h.dk.lt
 clear h hb
 go_enter func199, ntmps199
 go_wp2
 go_ret2
 exact ⟨rfl, Below.refl _ _⟩
theorem hRedo_no (r d : Nat) (p : Pg) (c : Int) (a : Option Addr) (cap : Nat) (w : World) (h : RdAt w r d p) (hb : p.forth = .slice a 0 cap) :
  qC 162 #[.pointer (some ⟨d, 5, none⟩), .int .i64 c] w (.tuple #[.string ⟨#[]⟩, .bool false]) := by
 have HW := hWalkF_no r d p c a cap w.drew (h.below (Below.refl _ _).drew) hb
 clear h hb
 go_enter func162, ntmps162
 go_wp2_with fail
 go_region_held3 (fun ww => ∃ z, Hid (ww.os = z)) ((exact ⟨_, rfl⟩)) ((go_at_call 199; refine Calls.mono HW ?_; rintro e w1 ⟨rfl, h1⟩))
 go_wp2
 go_ret2
 exact ⟨rfl, (Below.refl _ _).drew.trans h1⟩
theorem mCommand_redo_no (r d : Nat) (p : Pg) (a : Option Addr) (cap : Nat) (w : World) (h : RdAt w r d p) (hb : p.forth = .slice a 0 cap) (hn : p.n ≤ 99) (hbh : p.behind ≤ 99) :
  qC 141 #[.agg #[.pointer (some ⟨r, 0, none⟩)], .int .u8 18] w (.int .i64 4) := by
 have HT : Hid (∀ ww, RdAt ww r d p → qC 161 #[.pointer (some ⟨r, 1, none⟩)] ww (.int .i64 (max (cnt p) 1 : Nat))) := fun ww hh => mTimes r d p ww hh hn hbh
 generalize hN : max (cnt p) 1 = N at *
 clear hN
 have HU : Hid (∀ ww, RdAt ww r d p → qC 162 #[.pointer (some ⟨d, 5, none⟩), .int .i64 (N : Nat)] ww (.tuple #[.string ⟨#[]⟩, .bool false])) := fun ww hh => hRedo_no r d p N a cap ww hh hb
 have HG : qH 159 #[.agg #[.pointer (some ⟨r, 0, none⟩)], .string ⟨#[]⟩, .bool false] (.int .i64 4) := fun ww => mGoTo_no r ⟨#[]⟩ ww
 have H := h
 have r0 := H.bg.c0
 have hlr := H.bg.lt
 have hld := H.dk.lt
 have l1 : r < w.heap.size + 1 := by omega
 have l2 : d < w.heap.size + 1 := by omega
 clear h hb
 go_enter func141, ntmps141
 go_wp2_with fail
 have g0 : (w.alloc (.cells #[.pointer (some ⟨r, 0, none⟩)] 77)).cell? ⟨w.heap.size, 0, none⟩ = some (.pointer (some ⟨r, 0, none⟩)) := by simp
 go_region_held3 (fun ww => ww.cell? ⟨w.heap.size, 0, none⟩ = some (.pointer (some ⟨r, 0, none⟩)) ∧ ww.cell? ⟨r, 0, none⟩ = some (.pointer (some ⟨d, 0, none⟩))) (exact qK) (first | (go_at_call 161; refine Calls.mono (HT.out _ qRd) ?_; rintro e1 w1 ⟨rfl, h1⟩; have hz1 := h1.size; (try simp at hz1)) | (go_at_call 162; refine Calls.mono (HU.out w1 qRd) ?_; rintro e2 w2 ⟨rfl, h2⟩; have hz2 := h2.size; have s0 : w2.cell? ⟨r, 0, none⟩ = some (.pointer (some ⟨d, 0, none⟩)) := memLater h2 qM; have s1 : w2.cell? ⟨w.heap.size, 0, none⟩ = some (.pointer (some ⟨r, 0, none⟩)) := memLater h2 qM) | (go_at_call 159; refine Calls.mono (HG.out w2) ?_; rintro e3 w3 ⟨rfl, h3⟩; have q0 := memLater h3 s0; have q1 := memLater h3 s1))
 go_wp2
 go_ret
 refine ⟨rfl, ?_⟩
 repeat exact qB
