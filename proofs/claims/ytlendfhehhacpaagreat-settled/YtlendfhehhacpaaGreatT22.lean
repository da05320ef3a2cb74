/- A part. -/
import Derived.Test.YtlendfhehhacpaaGreatT18
import Derived.Test.YtlendfhehhacpaaGreatT11
import Derived.Deep.AppendLies
import Derived.WalkSmall
set_option linter.unusedVariables false
set_option linter.unusedSimpArgs false
set_option maxRecDepth 100000
set_option maxHeartbeats 8000000
namespace Go.Proofs.YtlendfhehhacpaaGreat
open Go.RowKit Nib Tryz
theorem infoStep : (Tryz.prog.info? 130).map (fun i => (i.zero, i.size, i.bytes)) = some (some (.agg #[.int .i64 0, .int .i64 0, .string ⟨#[]⟩]), 3, 32) := by kernel_rfl
theorem mem_ownC {tv : Value} {k : Nat} : k ∈ own tv ↔ tv.ownBlock = some k := by
 unfold own
 cases tv.ownBlock <;> simp [eq_comm]
def stp (s t : ByteArray) : List Value := [.int .i64 (ahd s t : Nat), .int .i64 ((s.size - bhd s t : Nat) : Int), .string (brt s t)]
theorem qt7 {P : Prop} (h : P := by
  clear hK K
  try simp only [Act.put, qP]
  refine qR 12 fun K hK => ?_
  rw [if_pos (by rfl)]
  refine wp_append_lies _ _ _ _ (by rfl) 0 130 i0 _ 3 32 underlying91 hi iz0 iz1 iz2 rfl qo bk n xs (by rfl) (ho2.alloc _) ⟨w2.heap.size, 0, none⟩ 1 1 [.int .i64 (A : Nat), .int .i64 (E1 : Nat), .string X] (by rfl) (by rfl) (World.news_of_block (cs := #[.int .i64 (A : Nat), .int .i64 (E1 : Nat), .string X]) (t := 130) (fr := (0, 0)) (heap_alloc_new w2 _)) (by simp [Value.oneCell']) qo qm qo (Nat.zero_le _) (w2.heap.size + 1) qi ?_
  intro g cap w3 hown3 hgrow hat hlt
  have y5 := (hgrow.cell_far ⟨d, 5, none⟩ qs (Ne.symm hbd)).trans (memLater ((Below.refl _ _).alloc (Nat.le_refl _) _) x5)
  have y6 := (hgrow.cell_far ⟨d, 6, none⟩ qs (Ne.symm hbd)).trans (memLater ((Below.refl _ _).alloc (Nat.le_refl _) _) x6)
  have y7 := (hgrow.cell_far ⟨d, 7, none⟩ qs (Ne.symm hbd)).trans (memLater ((Below.refl _ _).alloc (Nat.le_refl _) _) x7)
  have yz : ∀ o, w3.frozen? ⟨d, o, none⟩ = false := (fun o => (hgrow.frozen_far ⟨d, o, none⟩ qs (Ne.symm hbd)).trans (((bcell ((Below.refl _ (w2)).alloc (Nat.le_refl _) _)).2 d o xl).trans (xz o)))
  have hzg := hgrow.size
  (try simp at hzg)
  have yl : d < w3.heap.size := qo
  refine hK.out _ _ y5 (fun hHeld => ?_)
  clear hK K
  try simp only [Act.put, qP]
  refine qT 13 ?_
  simp only [Act.put, qP]
  refine qT 14 ?_
  simp only [Act.put, qP]
  refine qR 15 fun K hK => ?_
  rw [if_pos (by rfl)]
  go_wp2_with fail
  refine hK.out _ _ ?_ (fun hHeld => ?_)
  ·go_simp
  clear hK K
  try simp only [Act.put, qP]
  refine wpAnyH_done qk ?_ _
  go_wp2
  have H3 : RdAt w3 r d p := (((H.drew).below h2).alloc _).of_block (hgrow.block r qs (Ne.symm hbr)) (hgrow.block d qs (Ne.symm hbd)) hgrow.size
  have hgd : g ≠ d := by
   rcases hat with e | e
   ·intro e2; rw [e2] at e; exact hbd e
   ·omega
  first | go_end0 | refine bodyPost_ret (results_none rfl _ _ _) rfl ?_
  refine ⟨rfl, g, cap, ((H3.set_back _).set_now _).set_forth _, ?_, ?_, ?_⟩
  ·refine ownsRow_upd hown3 (Upd.setCell (Upd.setCell (Upd.setCell (Upd.refl [d] _) (Or.inl qi) _) (Or.inl qi) _) (Or.inl qi) _) ?_
   intro k hk
   simp at hk
   subst hk
   simp [Value.ownBlock, hgd]
  ·rcases hat with e | e
   ·exact Or.inl e
   ·exact Or.inr qo
  ·have U3 : Upd (d :: own bk) (w2.alloc (.cells #[.int .i64 (A : Nat), .int .i64 (E1 : Nat), .string X] 130)) w3 := ⟨hgrow.os, hgrow.tape, hgrow.output, hgrow.size, fun k hk hk2 => hgrow.block k hk (fun e => hk2 (List.mem_cons_of_mem _ (mem_ownC.2 e.symm)))⟩
   refine Upd.setCell (Upd.setCell (Upd.setCell ?_ (Or.inl qi) _) (Or.inl qi) _) (Or.inl qi) _
   exact Upd.trans (Upd.alloc (Upd.below (Upd.drew (Upd.refl _ _)) h2) _) U3
 ) : P := h
theorem hKeep_new (r d : Nat) (p : Pg) (n : Nat) (xs : List Value) (w : World) (h : RdAt w r d p)
  (ho : w.ownsRow 0 130 3 p.back n xs) (hbd : p.back.ownBlock ≠ some d) (hbr : p.back.ownBlock ≠ some r) (hn : n ≤ 1000000) (hne : ¬ p.t = p.now) (hs : p.t.size ≤ 1000) (hs2 : p.now.size ≤ 1000) :
  Calls Tryz.prog 49 #[.pointer (some ⟨d, 5, none⟩), .string p.t] w fun e w' => e = .returned (.tuple #[]) ∧ ∃ g cap, RdAt w' r d { p with now := p.t, back := .slice (some ⟨g, 0, none⟩) (n + 1) cap, forth := .slice none 0 0 } ∧ w'.ownsRow 0 130 3 (.slice (some ⟨g, 0, none⟩) (n + 1) cap) (n + 1) (xs ++ stp p.t p.now) ∧ (p.back.ownBlock = some g ∨ w.heap.size ≤ g) ∧ Upd (d :: own p.back) w w' := by
 have HB : qH 67 #[.string p.t, .string p.now] (.agg #[.int .i64 (ahd p.t p.now : Nat), .int .i64 ((p.t.size - bhd p.t p.now : Nat) : Int), .string (brt p.t p.now)]) := fun ww => hBetween p.t p.now ww hs hs2
 have hne' : (p.t.toList == p.now.toList) = false := by
  rw [beq_eq_false_iff_ne]
  intro hx
  apply hne
  rw [ByteArray.toList_eq, ByteArray.toList_eq] at hx
  exact ByteArray.ext (Array.ext' hx)
 have H := h
 have c5 := h.dk.c5
 have c6 := h.dk.c6
 have c7 := h.dk.c7
 have fz := h.dk.fz
 have hld := h.dk.lt
 have hlr := h.bg.lt
 have hrd := h.ne
 unfold stp
 generalize ahd p.t p.now = A at *
 generalize p.t.size - bhd p.t p.now = E1 at *
 generalize brt p.t p.now = X at *
 generalize hbk : p.back = bk at *
 obtain ⟨i0, hi, iz0, iz1, iz2⟩ := info_parts infoStep
 clear h
 go_enter func49, ntmps49
 go_wp2_with fail
 refine wp_region_held_drew (S := fun ww => ww.cell? ⟨d, 5, none⟩ = some (.string p.now)) qk ?_ (fun hHeld => ?_)
 ·exact memLater ((Below.refl _ _).drew) c5
 refine qT 0 ?_
 simp only [Act.put, qP]
 refine qT 1 ?_
 simp only [Act.put, qP]
 refine qT 2 ?_
 simp only [Act.put, qP]
 refine qT 3 ?_
 simp only [Act.put, qP]
 refine qT 5 ?_
 simp only [Act.put, qP]
 refine qT 6 ?_
 simp only [Act.put, qP]
 refine qT 7 ?_
 simp only [Act.put, qP]
 refine qT 8 ?_
 simp only [Act.put, qP]
 refine qT 9 ?_
 simp only [Act.put, qP]
 have c6' : w.drew.cell? ⟨d, 6, none⟩ = some bk := memLater ((Below.refl _ _).drew) c6
 refine wpAnyH_ready (rs := [4, 10]) qk qi (AllReadyH.cons rfl (fun K hK => ?_) (AllReadyH.cons rfl (fun K hK => ?_) AllReadyH.nil))
 ·rw [if_pos (by rfl)]
  go_wp2_with fail
  refine hK.out _ _ ?_ (fun hHeld => ?_)
  ·exact memLater ((Below.refl _ _).drew) c5
  clear hK K
  try simp only [Act.put, qP]
  refine qR 10 fun K hK => ?_
  rw [if_pos (by rfl)]
  go_wp2_with fail
  refine (HB.out _).mono ?_
  rintro r2 w2 ⟨rfl, h2⟩
  obtain ⟨hc2, hf2, hz2⟩ := qb h2
  (try simp at hz2)
  go_wp2_with fail
  refine hK.out _ _ ?_ (fun hHeld => ?_)
  ·exact memLater h2 (memLater ((Below.refl _ _).drew) c5)
  clear hK K
  try simp only [Act.put, qP]
  have hzz := h2.size
  (try simp at hzz)
  have x5 := memLater h2 (memLater ((Below.refl _ _).drew) c5)
  have x6 := memLater h2 (memLater ((Below.refl _ _).drew) c6)
  have x7 := memLater h2 (memLater ((Below.refl _ _).drew) c7)
  have xz : ∀ o, w2.frozen? ⟨d, o, none⟩ = false := (fun o => ((bcell h2).2 d o qs).trans (fz o))
  have xl : d < w2.heap.size := qo
  have ho2 := ownsRow_upd ho (Upd.of_below (S := []) (Below.trans ((Below.refl _ _).drew) h2)) qi
  refine qR 11 fun K hK => ?_
  rw [if_pos (by rfl)]
  go_wp2_with fail
  refine hK.out _ _ ?_ (fun hHeld => ?_)
  ·exact (memLater ((Below.refl _ _).alloc (Nat.le_refl _) _) x5)
  exact qt7
 ·rw [if_pos (by rfl)]
  go_wp2_with fail
  refine (HB.out _).mono ?_
  rintro r2 w2 ⟨rfl, h2⟩
  go_wp2_with fail
  refine hK.out _ _ ?_ (fun hHeld => ?_)
  ·exact memLater h2 (memLater ((Below.refl _ _).drew) c5)
  clear hK K
  try simp only [Act.put, qP]
  have hzz := h2.size
  (try simp at hzz)
  have x5 := memLater h2 (memLater ((Below.refl _ _).drew) c5)
  have x6 := memLater h2 (memLater ((Below.refl _ _).drew) c6)
  have x7 := memLater h2 (memLater ((Below.refl _ _).drew) c7)
  have xz : ∀ o, w2.frozen? ⟨d, o, none⟩ = false := (fun o => ((bcell h2).2 d o qs).trans (fz o))
  have xl : d < w2.heap.size := qo
  have ho2 := ownsRow_upd ho (Upd.of_below (S := []) (Below.trans ((Below.refl _ _).drew) h2)) qi
  refine wpAnyH_ready (rs := [4, 11]) qk qi (AllReadyH.cons rfl (fun K hK => ?_) (AllReadyH.cons rfl (fun K hK => ?_) AllReadyH.nil))
  ·rw [if_pos (by rfl)]
   go_wp2_with fail
   refine hK.out _ _ x5 (fun hHeld => ?_)
   clear hK K
   try simp only [Act.put, qP]
   refine qR 11 fun K hK => ?_
   rw [if_pos (by rfl)]
   go_wp2_with fail
   refine hK.out _ _ ?_ (fun hHeld => ?_)
   ·exact (memLater ((Below.refl _ _).alloc (Nat.le_refl _) _) x5)
   exact qt7
  ·rw [if_pos (by rfl)]
   go_wp2_with fail
   have z5 := (memLater ((Below.refl _ w2).alloc (Nat.le_refl _) (.cells #[.int .i64 (A : Nat), .int .i64 (E1 : Nat), .string X] 130)) x5)
   have z6 := (memLater ((Below.refl _ w2).alloc (Nat.le_refl _) (.cells #[.int .i64 (A : Nat), .int .i64 (E1 : Nat), .string X] 130)) x6)
   refine hK.out _ _ z5 (fun hHeld => ?_)
   clear hK K
   try simp only [Act.put, qP]
   refine qR 4 fun K hK => ?_
   rw [if_pos (by rfl)]
   go_wp2_with fail
   refine hK.out _ _ z5 (fun hHeld => ?_)
   exact qt7
structure Stp where
 i : Nat
 j : Nat
 b : ByteArray
def app (t : ByteArray) (s : Stp) : ByteArray := t.extract 0 s.i ++ s.b ++ t.extract s.j t.size
def mkS (s t : ByteArray) : Stp := ⟨ahd s t, s.size - bhd s t, brt s t⟩
def celS : List Stp → List Value
 | [] => []
 | s :: l => .int .i64 (s.i : Nat) :: .int .i64 (s.j : Nat) :: .string s.b :: celS l
theorem celS_len (l : List Stp) : (celS l).length = l.length * 3 := by
 induction l with
 | nil => rfl
 | cons s l ih => simp only [celS, List.length_cons, ih]; omega
theorem celS_app (a b : List Stp) : celS (a ++ b) = celS a ++ celS b := by
 induction a with
 | nil => rfl
 | cons s l ih => simp only [List.cons_append, celS, ih]
theorem celS_mk (s t : ByteArray) : celS [mkS s t] = stp s t := rfl
theorem celS_last (l : List Stp) (s : Stp) : (celS (l ++ [s]))[l.length * 3]? = some (.int .i64 (s.i : Nat)) ∧ (celS (l ++ [s]))[l.length * 3 + 1]? = some (.int .i64 (s.j : Nat)) ∧ (celS (l ++ [s]))[l.length * 3 + 2]? = some (.string s.b) := by
 rw [celS_app]
 have h := celS_len l
 refine ⟨?_, ?_, ?_⟩
 ·rw [List.getElem?_append_right qo, h, Nat.sub_self]; rfl
 ·rw [List.getElem?_append_right qo, h, show l.length * 3 + 1 - l.length * 3 = 1 by omega]; rfl
 ·rw [List.getElem?_append_right qo, h, show l.length * 3 + 2 - l.length * 3 = 2 by omega]; rfl
abbrev Hst := ByteArray × List Stp × List Stp
def wlk1 : Hst → Hst
 | (t, s :: R, F) => (app t s, R, F ++ [mkS (app t s) t])
 | (t, [], F) => (t, [], F)
def wlkN : Nat → Hst → Hst
 | 0, x => x
 | n + 1, x => wlk1 (wlkN n x)
def OkS : ByteArray → List Stp → Prop
 | _, [] => True
 | t, s :: R => s.i ≤ s.j ∧ s.j ≤ t.size ∧ s.b.size ≤ 1000 ∧ (app t s).size ≤ 1000 ∧ OkS (app t s) R
theorem wlkN_len (x : Hst) : ∀ n, n ≤ x.2.1.length → (wlkN n x).2.1.length = x.2.1.length - n ∧ (wlkN n x).2.2.length = x.2.2.length + n := by
 intro n
 induction n with
 | zero => intro _; exact ⟨rfl, rfl⟩
 | succ n ih =>
  intro h
  obtain ⟨h1, h2⟩ := ih qo
  simp only [wlkN]
  rcases hx : wlkN n x with ⟨t, R, F⟩
  rw [hx] at h1 h2
  cases R with
  | nil => simp at h1; omega
  | cons s R => simp only [wlk1, List.length_cons, List.length_append, List.length_nil] at *; omega
theorem wlkN_ok (x : Hst) (h0 : x.1.size ≤ 1000) (h : OkS x.1 x.2.1) : ∀ n, n ≤ x.2.1.length → (wlkN n x).1.size ≤ 1000 ∧ OkS (wlkN n x).1 (wlkN n x).2.1 := by
 intro n
 induction n with
 | zero => intro _; exact ⟨h0, h⟩
 | succ n ih =>
  intro hn
  obtain ⟨h1, h2⟩ := ih qo
  have hl := (wlkN_len x n qo).1
  simp only [wlkN]
  rcases hx : wlkN n x with ⟨t, R, F⟩
  rw [hx] at h1 h2 hl
  cases R with
  | nil => simp at hl; omega
  | cons s R => exact ⟨h2.2.2.2.1, h2.2.2.2.2⟩
abbrev stpO (t : ByteArray) (st : Stp) : Obj := .cells #[.int .i64 (ahd (app t st) t : Nat), .int .i64 (((app t st).size - bhd (app t st) t : Nat) : Int), .string (brt (app t st) t)] 130
theorem newStp {w : World} {b o1 o2 o3 : Nat} {v1 v2 v3 : Value} (t : ByteArray) (st : Stp) (h1 : w.cell? ⟨b, o1, none⟩ = some v1) (h2 : w.cell? ⟨b, o2, none⟩ = some v2) (h3 : w.cell? ⟨b, o3, none⟩ = some v3) : (w.alloc (stpO t st)).cell? ⟨b, o1, none⟩ = some v1 ∧ (w.alloc (stpO t st)).cell? ⟨b, o2, none⟩ = some v2 ∧ (w.alloc (stpO t st)).cell? ⟨b, o3, none⟩ = some v3 :=
 ⟨memLater ((Below.refl _ w).alloc (Nat.le_refl _) _) h1, memLater ((Below.refl _ w).alloc (Nat.le_refl _) _) h2, memLater ((Below.refl _ w).alloc (Nat.le_refl _) _) h3⟩
theorem growStp {w w3 : World} {ob : Obj} {ov : Option Nat} {d o1 o2 o3 : Nat} {v1 v2 v3 : Value} (hg : (w.alloc ob).grownBy w3 ov) (hod : ov ≠ some d) (hl : d < w.heap.size) (h1 : (w.alloc ob).cell? ⟨d, o1, none⟩ = some v1) (h2 : (w.alloc ob).cell? ⟨d, o2, none⟩ = some v2) (h3 : (w.alloc ob).cell? ⟨d, o3, none⟩ = some v3) (hz : ∀ o, w.frozen? ⟨d, o, none⟩ = false) : w3.cell? ⟨d, o1, none⟩ = some v1 ∧ w3.cell? ⟨d, o2, none⟩ = some v2 ∧ w3.cell? ⟨d, o3, none⟩ = some v3 ∧ ∀ o, w3.frozen? ⟨d, o, none⟩ = false :=
 ⟨(hg.cell_far ⟨d, o1, none⟩ qs (Ne.symm hod)).trans h1, (hg.cell_far ⟨d, o2, none⟩ qs (Ne.symm hod)).trans h2, (hg.cell_far ⟨d, o3, none⟩ qs (Ne.symm hod)).trans h3, fun o => (hg.frozen_far ⟨d, o, none⟩ qs (Ne.symm hod)).trans (((bcell ((Below.refl _ w).alloc (Nat.le_refl _) ob)).2 d o hl).trans (hz o))⟩
structure HsAt (w W : World) (r d g cap : Nat) (p : Pg) (x : Hst) (ov : Value) : Prop where
 rd : RdAt W r d { p with now := x.1, back := .slice (some ⟨g, 0, none⟩) x.2.1.length cap, forth := ov }
 ob : W.ownsRow 0 130 3 (.slice (some ⟨g, 0, none⟩) x.2.1.length cap) x.2.1.length (celS x.2.1.reverse)
 of : W.ownsRow 0 130 3 ov x.2.2.length (celS x.2.2)
 gd : g ≠ d
 gr : g ≠ r
 od : ov.ownBlock ≠ some d
 or : ov.ownBlock ≠ some r
 og : ov.ownBlock ≠ some g
 gl : g < W.heap.size
 fr : p.forth.ownBlock = ov.ownBlock ∨ ∀ k, ov.ownBlock = some k → w.heap.size ≤ k
 up : Upd (d :: own p.forth) w W
theorem updMore {S T : List Nat} {a w w' : World} (h : Upd S a w) (k : Upd T w w') (hs : ∀ x, x ∈ T → x ∈ S ∨ a.heap.size ≤ x) : Upd S a w' :=
 ⟨k.os.trans h.os, k.tape.trans h.tape, k.output.trans h.output, Nat.le_trans h.size k.size, fun i hi hn => (k.block i (Nat.lt_of_lt_of_le hi h.size) (fun hm => by
  rcases hs i hm with h1 | h1
  ·exact hn h1
  ·omega)).trans (h.block i hi hn)⟩
theorem qt66 {P : Prop} (h : P := by
  have U3 : Upd (own ov) (w2.alloc o) w3 := ⟨hgrow.os, hgrow.tape, hgrow.output, hgrow.size, fun k hk hk2 => hgrow.block k hk (fun e => hk2 (mem_ownC.2 e.symm))⟩
  refine (updMore U2 U3 ?_).trans (US.mono qi)
  intro k hk
  have hk' := mem_ownC.1 hk
  rcases h.fr with f | f
  ·left; rw [← f] at hk'; exact List.mem_cons_of_mem _ (mem_ownC.2 hk')
  ·right; exact f k hk'
 ) : P := h
theorem qt69 {P : Prop} (h : P := by
  have a1 := ownsRow_upd h.ob (Upd.of_below (S := []) (Below.trans ((Below.refl _ _).drew) h1)) qi
  have a2 := ownsRow_upd a1 (Upd.of_below (S := []) (Below.trans ((Below.refl _ _).drew) h2)) qi
  have a3 := (a2.alloc o).kept hgrow (Or.inr (by simp only [Value.ownBlock]; exact Ne.symm h.og))
  simp only [List.length_cons, List.reverse_cons] at a3
  exact a3
 ) : P := h
theorem qt83 {P : Prop} (h : P := by
  rcases hat with e | e
  ·rcases h.fr with f | f
   ·left; rw [f, e]; rfl
   ·right; intro k hk; simp only [Value.ownBlock, Option.some.injEq] at hk; exact hk ▸ f g2 e
  ·right; intro k hk; simp only [Value.ownBlock, Option.some.injEq] at hk; omega
 ) : P := h
theorem qt84 {P : Prop} (h : P := by
  refine ownsRow_upd ?_ US (by intro k hk; simp at hk; subst hk; simp [Value.ownBlock, h.gd])
  have hp := ownsRow_pop (xs := celS R.reverse) (last := celS [st]) (by rw [celS_len, List.length_reverse]) (by rw [← celS_app]; exact ob3)
  exact hp
 ) : P := h
theorem qt86 {P : Prop} (h : P := by
  refine ownsRow_upd ?_ US (by intro k hk; simp at hk; subst hk; simp [Value.ownBlock, gd2])
  show w3.ownsRow 0 130 3 _ (F ++ [mkS (app t st) t]).length (celS (F ++ [mkS (app t st) t]))
  rw [celS_app, celS_mk, List.length_append]
  exact hown
 ) : P := h
theorem HsAt.next {w wr w1 w2 w3 : World} {r d g cap g2 cap2 L : Nat} {p : Pg} {t : ByteArray} {st : Stp} {R F : List Stp} {ov : Value} {o : Obj} (h : HsAt w wr r d g cap p (t, st :: R, F) ov)
  (h1 : Below wr.drew.heap.size wr.drew w1) (h2 : Below w1.drew.heap.size w1.drew w2) (hown : w3.ownsRow 0 130 3 (.slice (some ⟨g2, 0, none⟩) (F.length + 1) cap2) (F.length + 1) (celS F ++ stp (app t st) t))
  (hgrow : (w2.alloc o).grownBy w3 ov.ownBlock) (hat : ov.ownBlock = some g2 ∨ g2 = w2.heap.size + 1) (hL : R.length = L) :
  HsAt w (((w3.setCell ⟨d, 6, none⟩ (.slice (some ⟨g, 0, none⟩) L cap)).setCell ⟨d, 7, none⟩ (.slice (some ⟨g2, 0, none⟩) (F.length + 1) cap2)).setCell ⟨d, 5, none⟩ (.string (app t st))) r d g cap p (wlk1 (t, st :: R, F)) (.slice (some ⟨g2, 0, none⟩) (F.length + 1) cap2) := by
 subst hL
 have z1 : wr.heap.size ≤ w1.heap.size := h1.size
 have z2 : w1.heap.size ≤ w2.heap.size := h2.size
 have z3 := hgrow.size
 simp at z3
 have l1 := h.rd.bg.lt
 have l2 := h.rd.dk.lt
 have l3 := h.gl
 have zu := h.up.size
 have H2 := ((((h.rd.drew).below h1).drew.below h2).alloc o)
 have H3 : RdAt w3 r d { p with now := t, back := .slice (some ⟨g, 0, none⟩) (R.length + 1) cap, forth := ov } := H2.of_block (hgrow.block r qs (Ne.symm h.or)) (hgrow.block d qs (Ne.symm h.od)) hgrow.size
 have ob3 : w3.ownsRow 0 130 3 (.slice (some ⟨g, 0, none⟩) (R.length + 1) cap) (R.length + 1) (celS (R.reverse ++ [st])) := by
  exact qt69
 have gd2 : g2 ≠ d := by
  rcases hat with e | e
  ·intro e2; rw [e2] at e; exact h.od e
  ·omega
 have gr2 : g2 ≠ r := by
  rcases hat with e | e
  ·intro e2; rw [e2] at e; exact h.or e
  ·omega
 have gg2 : g2 ≠ g := by
  rcases hat with e | e
  ·intro e2; rw [e2] at e; exact h.og e
  ·omega
 have US : Upd [d] w3 (((w3.setCell ⟨d, 6, none⟩ (.slice (some ⟨g, 0, none⟩) R.length cap)).setCell ⟨d, 7, none⟩ (.slice (some ⟨g2, 0, none⟩) (F.length + 1) cap2)).setCell ⟨d, 5, none⟩ (.string (app t st))) :=
  Upd.setCell (Upd.setCell (Upd.setCell (Upd.refl [d] _) (Or.inl qi) _) (Or.inl qi) _) (Or.inl qi) _
 refine ⟨((H3.set_back _).set_forth _).set_now _, ?_, ?_, h.gd, h.gr, ?_, ?_, ?_, ?_, ?_, ?_⟩
 ·exact qt84
 ·exact qt86
 ·simp [Value.ownBlock, gd2]
 ·simp [Value.ownBlock, gr2]
 ·simp [Value.ownBlock, gg2]
 ·have := US.size; omega
 ·exact qt83
 ·have U2 : Upd (d :: own p.forth) w (w2.alloc o) := Upd.alloc (Upd.below (Upd.drew (Upd.below (Upd.drew h.up) h1)) h2) o
  exact qt66
theorem hWalk (r d g cap : Nat) (p : Pg) (c : Nat) (x : Hst) (w : World) (h : HsAt w w r d g cap p x p.forth) (hx0 : 0 < x.2.1.length) (hc : 1 ≤ c) (hx1 : x.1.size ≤ 1000) (hok : OkS x.1 x.2.1) (hm : x.2.1.length + x.2.2.length ≤ 100000) :
  Calls Tryz.prog 199 #[.pointer (some ⟨d, 5, none⟩), .int .i64 (c : Nat), .pointer (some ⟨d, 6, none⟩), .pointer (some ⟨d, 7, none⟩)] w fun e w' => e = .returned (.tuple #[.string (wlkN (min c x.2.1.length) x).1, .bool true]) ∧ ∃ ov, HsAt w w' r d g cap p (wlkN (min c x.2.1.length) x) ov := by
 have c5 := h.rd.dk.c5
 have c6 := h.rd.dk.c6
 have c7 := h.rd.dk.c7
 have fz := h.rd.dk.fz
 have hld := h.rd.dk.lt
 generalize hn : x.2.1.length = n at *
 have hn1 : (((n : Nat) : Int) == 0) = false := by simp; omega
 generalize hK : min c n = K at *
 have hKn : K ≤ n := by omega
 have hKi : min ((c : Nat) : Int) ((n : Nat) : Int) = ((K : Nat) : Int) := by omega
 all_goals
  go_enter func199, ntmps199
  go_wp2
  go_loopw [23] (fun i wr => ∃ (k : Nat) (ov : Value), k ≤ K ∧ i = .int .i64 k ∧ HsAt w wr r d g cap p (wlkN k x) ov) (fun i _ => K - (intOf i).toNat)
  case atStart => exact ⟨0, p.forth, Nat.zero_le _, rfl, h⟩
  case round =>
   clear c5 c6 c7 fz hld h
   obtain ⟨k, ov, hk, rfl, h⟩ := hrel
   have c5 := h.rd.dk.c5
   have c6 := h.rd.dk.c6
   have c7 := h.rd.dk.c7
   have fz := h.rd.dk.fz
   have hld := h.rd.dk.lt
   by_cases hlt : k < K
   ·obtain ⟨hl1, hl2⟩ := wlkN_len x k qo
    obtain ⟨ho1, ho2⟩ := wlkN_ok x hx1 hok k qo
    have hs1 : wlkN (k + 1) x = wlk1 (wlkN k x) := rfl
    rcases hxk : wlkN k x with ⟨t, R, F⟩
    rw [hxk] at h hl1 hl2 ho1 ho2 hs1 c5 c6 c7
    cases R with
    | nil => simp at hl1; omega
    | cons st R =>
     obtain ⟨s1, s2, s3, s4, s5⟩ := ho2
     have HW : qH 192 #[.string t, .agg #[.int .i64 (st.i), .int .i64 (st.j)], .string st.b] (.string (app t st)) := fun ww => tWith_any t st.b _ _ st.i st.j ww ho1 qo rfl rfl s1 s2
     have HB : qH 67 #[.string (app t st), .string t] (.agg #[.int .i64 (ahd (app t st) t : Nat), .int .i64 (((app t st).size - bhd (app t st) t : Nat) : Int), .string (brt (app t st) t)]) := fun ww => hBetween (app t st) t ww s4 ho1
     have hcl := celS_last R.reverse st
     have ob := h.ob
     simp only [List.length_cons, List.reverse_cons] at ob c6 hl1
     have e0 := ob.cells (g := g) rfl _ _ hcl.1
     have e1 := ob.cells (g := g) rfl _ _ hcl.2.1
     have e2 := ob.cells (g := g) rfl _ _ hcl.2.2
     simp only [List.length_reverse] at e0 e1 e2
     have ad : ∀ j, (⟨g, 0, none⟩ : Addr).add j = ⟨g, j, none⟩ := fun j => by unfold Addr.add; split <;> simp_all
     rw [ad] at e0 e1 e2
     generalize hL : R.length = L at *
     have hklt : ((k : Nat) : Int) < ((K : Nat) : Int) := by omega
     have hl1' : Hid (L + 1 = n - k) := by rw [Hid, ← hn]; exact hl1
     have hLn : L ≤ 100000 := by have := hl1'.out; omega
     have hl2' : F.length = x.2.2.length + k := hl2
     have hFn : F.length ≤ 100000 := by have := hl1'.out; omega
     have hLc : L ≤ cap := by
      rcases ob.2 with ⟨h0, _⟩ | ⟨g', cap', cur, hv, _, _, hnc, _⟩
      ·cases h0
      ·cases hv; omega
     clear hl2 hl2'
     have hlg : g < wr.heap.size := h.gl
     have i1 : (0 : Int) ≤ ((L : Nat) : Int) := by omega
     have i2 : ((L : Nat) : Int) < ((L : Nat) : Int) + 1 := by omega
     have i3 : ((L : Nat) : Int) ≤ ((L : Nat) : Int) + 1 := by omega
     clear hl1
     go_wp2_with fail
     go_region_held3 (fun ww => ww.cell? ⟨d, 5, none⟩ = some (.string t) ∧ ww.cell? ⟨d, 6, none⟩ = some (.slice (some ⟨g, 0, none⟩) (L + 1) cap) ∧ ww.cell? ⟨g, L * 3, none⟩ = some (.int .i64 (st.i : Nat)) ∧ ww.cell? ⟨g, L * 3 + 1, none⟩ = some (.int .i64 (st.j : Nat)) ∧ ww.cell? ⟨g, L * 3 + 2, none⟩ = some (.string st.b)) (exact qK) ((go_at_call 192; refine Calls.mono (HW.out _) ?_; rintro r1 w1 ⟨rfl, h1⟩; have hz1 := h1.size; (try simp at hz1); (try have ⟨hl1_0, hk1_0⟩ := qL d w1.heap.size); (try have ⟨hl1_1, hk1_1⟩ := qL g w1.heap.size)))
     have H1 := (h.rd.drew).below h1
     have x5 := H1.dk.c5
     have x6 := H1.dk.c6
     have x7 := H1.dk.c7
     have xz := H1.dk.fz
     have xl := H1.dk.lt
     have xlr := H1.bg.lt
     have u5 : w1.drew.cell? ⟨d, 5, none⟩ = some (.string t) := memLater ((Below.refl _ _).drew) x5
     have u6 : w1.drew.cell? ⟨d, 6, none⟩ = some (.slice (some ⟨g, 0, none⟩) (L + 1) cap) := by
      have := memLater ((Below.refl _ _).drew) x6
      simp only [List.length_cons, hL] at this
      exact this
     have u7 : w1.drew.cell? ⟨d, 7, none⟩ = some ov := memLater ((Below.refl _ _).drew) x7
     have of1 : w1.ownsRow 0 130 3 ov F.length (celS F) := ownsRow_upd h.of (Upd.of_below (S := []) (Below.trans ((Below.refl _ _).drew) h1)) qi
     have ob1 : w1.ownsRow 0 130 3 (.slice (some ⟨g, 0, none⟩) (L + 1) cap) (L + 1) (celS (R.reverse ++ [st])) := ownsRow_upd ob (Upd.of_below (S := []) (Below.trans ((Below.refl _ _).drew) h1)) qi
     have hod := h.od
     have xlg : g < w1.heap.size := by omega
     obtain ⟨i0, hi, iz0, iz1, iz2⟩ := info_parts infoStep
     clear x5 x6 x7 e0 e1 e2 c5 c6 c7 fz ob1
     go_wp2_with fail
     refine wp_region_held_drew (S := fun ww => ww.cell? ⟨d, 5, none⟩ = some (.string t)) qk ?_ (fun hHeld => ?_)
     ·exact u5
     refine qT 0 ?_
     simp only [Act.put, qP]
     refine qT 1 ?_
     simp only [Act.put, qP]
     refine qT 2 ?_
     simp only [Act.put, qP]
     refine qT 3 ?_
     simp only [Act.put, qP]
     refine qT 5 ?_
     simp only [Act.put, qP]
     refine qT 7 ?_
     simp only [Act.put, qP]
     refine qT 8 ?_
     simp only [Act.put, qP]
     refine qT 10 ?_
     simp only [Act.put, qP]
     refine qT 11 ?_
     simp only [Act.put, qP]
     refine qT 12 ?_
     simp only [Act.put, qP]
     refine qT 13 ?_
     simp only [Act.put, qP]
     refine qT 14 ?_
     simp only [Act.put, qP]
     refine wpAnyH_ready (rs := [4, 9, 15]) qk qi (AllReadyH.cons rfl (fun K hK => ?_) (AllReadyH.cons rfl (fun K hK => ?_) (AllReadyH.cons rfl (fun K hK => ?_) AllReadyH.nil)))
     focus
      rw [if_pos (by rfl)]
      go_wp2_with fail
      refine hK.out _ _ u5 (fun hHeld => ?_)
      clear hK K
      try simp only [Act.put, qP]
      refine qT 6 ?_
      simp only [Act.put, qP]
     refine wpAnyH_ready (rs := [9, 15]) qk qi (AllReadyH.cons rfl (fun K hK => ?_) (AllReadyH.cons rfl (fun K hK => ?_) AllReadyH.nil))
     focus
      rw [if_pos (by rfl)]
      go_wp2_with fail
      refine hK.out _ _ u5 (fun hHeld => ?_)
      clear hK K
      try simp only [Act.put, qP]
     refine qR 15 fun K hK => ?_
     focus
      rw [if_pos (by rfl)]
      go_wp2_with fail
      refine (HB.out _).mono ?_
      rintro r2 w2 ⟨rfl, h2⟩
      have y5 := memLater h2 u5
      have y6 := memLater h2 u6
      have y7 := memLater h2 u7
      have yz : ∀ o, w2.frozen? ⟨d, o, none⟩ = false := fun o => ((bcell h2).2 d o qs).trans (xz o)
      have yh := h2.size
      (try simp at yh)
      have yl : d < w2.heap.size := by omega
      have ylr : r < w2.heap.size := by omega
      have ylg : g < w2.heap.size := by omega
      go_wp2_with fail
      refine hK.out _ _ y5 (fun hHeld => ?_)
      clear hK K
      try simp only [Act.put, qP]
     refine qR 16 fun K hK => ?_
     focus
      rw [if_pos (by rfl)]
      obtain ⟨z5, z6, z7⟩ := newStp t st y5 y6 y7
      go_wp2_with fail
      refine hK.out _ _ z5 (fun hHeld => ?_)
      clear hK K
      try simp only [Act.put, qP]
     refine qR 17 fun K hK => ?_
     focus
      rw [if_pos (by rfl)]
      refine wp_append_lies _ _ _ _ (by rfl) 0 130 i0 _ 3 32 underlying91 hi iz0 iz1 iz2 rfl qo ov F.length (celS F) (by rfl) ((ownsRow_upd of1 (Upd.of_below (S := []) (Below.trans ((Below.refl _ _).drew) h2)) qi).alloc _) ⟨w2.heap.size, 0, none⟩ 1 1 (stp (app t st) t) (by rfl) (by rfl) (World.news_of_block (cs := (stp (app t st) t).toArray) (t := 130) (fr := (0, 0)) (heap_alloc_new w2 _)) (by simp [stp, Value.oneCell']) qo qm qo (Nat.zero_le _) (w2.heap.size + 1) qi ?_
      intro g2 cap2 w3 hown3 hgrow hat hlt2
      obtain ⟨v5, v6, v7, vz⟩ := growStp hgrow hod yl z5 z6 z7 yz
      have vh := hgrow.size
      (try simp at vh)
      have vl : d < w3.heap.size := by omega
      refine hK.out _ _ v5 (fun hHeld => ?_)
      clear hK K
      try simp only [Act.put, qP]
     rotate_left
     focus
      rw [if_pos (by rfl)]
      go_wp2_with fail
      refine (HB.out _).mono ?_
      rintro r2 w2 ⟨rfl, h2⟩
      have y5 := memLater h2 u5
      have y6 := memLater h2 u6
      have y7 := memLater h2 u7
      have yz : ∀ o, w2.frozen? ⟨d, o, none⟩ = false := fun o => ((bcell h2).2 d o qs).trans (xz o)
      have yh := h2.size
      (try simp at yh)
      have yl : d < w2.heap.size := by omega
      have ylr : r < w2.heap.size := by omega
      have ylg : g < w2.heap.size := by omega
      go_wp2_with fail
      refine hK.out _ _ y5 (fun hHeld => ?_)
      clear hK K
      try simp only [Act.put, qP]
     refine wpAnyH_ready (rs := [9, 16]) qk qi (AllReadyH.cons rfl (fun K hK => ?_) (AllReadyH.cons rfl (fun K hK => ?_) AllReadyH.nil))
     focus
      rw [if_pos (by rfl)]
      go_wp2_with fail
      refine hK.out _ _ y5 (fun hHeld => ?_)
      clear hK K
      try simp only [Act.put, qP]
     refine qR 16 fun K hK => ?_
     focus
      rw [if_pos (by rfl)]
      obtain ⟨z5, z6, z7⟩ := newStp t st y5 y6 y7
      go_wp2_with fail
      refine hK.out _ _ z5 (fun hHeld => ?_)
      clear hK K
      try simp only [Act.put, qP]
     refine qR 17 fun K hK => ?_
     focus
      rw [if_pos (by rfl)]
      refine wp_append_lies _ _ _ _ (by rfl) 0 130 i0 _ 3 32 underlying91 hi iz0 iz1 iz2 rfl qo ov F.length (celS F) (by rfl) ((ownsRow_upd of1 (Upd.of_below (S := []) (Below.trans ((Below.refl _ _).drew) h2)) qi).alloc _) ⟨w2.heap.size, 0, none⟩ 1 1 (stp (app t st) t) (by rfl) (by rfl) (World.news_of_block (cs := (stp (app t st) t).toArray) (t := 130) (fr := (0, 0)) (heap_alloc_new w2 _)) (by simp [stp, Value.oneCell']) qo qm qo (Nat.zero_le _) (w2.heap.size + 1) qi ?_
      intro g2 cap2 w3 hown3 hgrow hat hlt2
      obtain ⟨v5, v6, v7, vz⟩ := growStp hgrow hod yl z5 z6 z7 yz
      have vh := hgrow.size
      (try simp at vh)
      have vl : d < w3.heap.size := by omega
      refine hK.out _ _ v5 (fun hHeld => ?_)
      clear hK K
      try simp only [Act.put, qP]
     rotate_left
     focus
      rw [if_pos (by rfl)]
      obtain ⟨z5, z6, z7⟩ := newStp t st y5 y6 y7
      go_wp2_with fail
      refine hK.out _ _ z5 (fun hHeld => ?_)
      clear hK K
      try simp only [Act.put, qP]
     refine qR 9 fun K hK => ?_
     focus
      rw [if_pos (by rfl)]
      go_wp2_with fail
      refine hK.out _ _ z5 (fun hHeld => ?_)
      clear hK K
      try simp only [Act.put, qP]
     refine qR 17 fun K hK => ?_
     focus
      rw [if_pos (by rfl)]
      refine wp_append_lies _ _ _ _ (by rfl) 0 130 i0 _ 3 32 underlying91 hi iz0 iz1 iz2 rfl qo ov F.length (celS F) (by rfl) ((ownsRow_upd of1 (Upd.of_below (S := []) (Below.trans ((Below.refl _ _).drew) h2)) qi).alloc _) ⟨w2.heap.size, 0, none⟩ 1 1 (stp (app t st) t) (by rfl) (by rfl) (World.news_of_block (cs := (stp (app t st) t).toArray) (t := 130) (fr := (0, 0)) (heap_alloc_new w2 _)) (by simp [stp, Value.oneCell']) qo qm qo (Nat.zero_le _) (w2.heap.size + 1) qi ?_
      intro g2 cap2 w3 hown3 hgrow hat hlt2
      obtain ⟨v5, v6, v7, vz⟩ := growStp hgrow hod yl z5 z6 z7 yz
      have vh := hgrow.size
      (try simp at vh)
      have vl : d < w3.heap.size := by omega
      refine hK.out _ _ v5 (fun hHeld => ?_)
      clear hK K
      try simp only [Act.put, qP]
     rotate_left
     focus
      rw [if_pos (by rfl)]
      go_wp2_with fail
      refine hK.out _ _ u5 (fun hHeld => ?_)
      clear hK K
      try simp only [Act.put, qP]
     refine wpAnyH_ready (rs := [4, 15]) qk qi (AllReadyH.cons rfl (fun K hK => ?_) (AllReadyH.cons rfl (fun K hK => ?_) AllReadyH.nil))
     focus
      rw [if_pos (by rfl)]
      go_wp2_with fail
      refine hK.out _ _ u5 (fun hHeld => ?_)
      clear hK K
      try simp only [Act.put, qP]
      refine qT 6 ?_
      simp only [Act.put, qP]
     refine qR 15 fun K hK => ?_
     focus
      rw [if_pos (by rfl)]
      go_wp2_with fail
      refine (HB.out _).mono ?_
      rintro r2 w2 ⟨rfl, h2⟩
      have y5 := memLater h2 u5
      have y6 := memLater h2 u6
      have y7 := memLater h2 u7
      have yz : ∀ o, w2.frozen? ⟨d, o, none⟩ = false := fun o => ((bcell h2).2 d o qs).trans (xz o)
      have yh := h2.size
      (try simp at yh)
      have yl : d < w2.heap.size := by omega
      have ylr : r < w2.heap.size := by omega
      have ylg : g < w2.heap.size := by omega
      go_wp2_with fail
      refine hK.out _ _ y5 (fun hHeld => ?_)
      clear hK K
      try simp only [Act.put, qP]
     refine qR 16 fun K hK => ?_
     focus
      rw [if_pos (by rfl)]
      obtain ⟨z5, z6, z7⟩ := newStp t st y5 y6 y7
      go_wp2_with fail
      refine hK.out _ _ z5 (fun hHeld => ?_)
      clear hK K
      try simp only [Act.put, qP]
     refine qR 17 fun K hK => ?_
     focus
      rw [if_pos (by rfl)]
      refine wp_append_lies _ _ _ _ (by rfl) 0 130 i0 _ 3 32 underlying91 hi iz0 iz1 iz2 rfl qo ov F.length (celS F) (by rfl) ((ownsRow_upd of1 (Upd.of_below (S := []) (Below.trans ((Below.refl _ _).drew) h2)) qi).alloc _) ⟨w2.heap.size, 0, none⟩ 1 1 (stp (app t st) t) (by rfl) (by rfl) (World.news_of_block (cs := (stp (app t st) t).toArray) (t := 130) (fr := (0, 0)) (heap_alloc_new w2 _)) (by simp [stp, Value.oneCell']) qo qm qo (Nat.zero_le _) (w2.heap.size + 1) qi ?_
      intro g2 cap2 w3 hown3 hgrow hat hlt2
      obtain ⟨v5, v6, v7, vz⟩ := growStp hgrow hod yl z5 z6 z7 yz
      have vh := hgrow.size
      (try simp at vh)
      have vl : d < w3.heap.size := by omega
      refine hK.out _ _ v5 (fun hHeld => ?_)
      clear hK K
      try simp only [Act.put, qP]
     rotate_left
     focus
      rw [if_pos (by rfl)]
      go_wp2_with fail
      refine (HB.out _).mono ?_
      rintro r2 w2 ⟨rfl, h2⟩
      have y5 := memLater h2 u5
      have y6 := memLater h2 u6
      have y7 := memLater h2 u7
      have yz : ∀ o, w2.frozen? ⟨d, o, none⟩ = false := fun o => ((bcell h2).2 d o qs).trans (xz o)
      have yh := h2.size
      (try simp at yh)
      have yl : d < w2.heap.size := by omega
      have ylr : r < w2.heap.size := by omega
      have ylg : g < w2.heap.size := by omega
      go_wp2_with fail
      refine hK.out _ _ y5 (fun hHeld => ?_)
      clear hK K
      try simp only [Act.put, qP]
     refine wpAnyH_ready (rs := [4, 16]) qk qi (AllReadyH.cons rfl (fun K hK => ?_) (AllReadyH.cons rfl (fun K hK => ?_) AllReadyH.nil))
     focus
      rw [if_pos (by rfl)]
      go_wp2_with fail
      refine hK.out _ _ y5 (fun hHeld => ?_)
      clear hK K
      try simp only [Act.put, qP]
      refine qT 6 ?_
      simp only [Act.put, qP]
     refine qR 16 fun K hK => ?_
     focus
      rw [if_pos (by rfl)]
      obtain ⟨z5, z6, z7⟩ := newStp t st y5 y6 y7
      go_wp2_with fail
      refine hK.out _ _ z5 (fun hHeld => ?_)
      clear hK K
      try simp only [Act.put, qP]
     refine qR 17 fun K hK => ?_
     focus
      rw [if_pos (by rfl)]
      refine wp_append_lies _ _ _ _ (by rfl) 0 130 i0 _ 3 32 underlying91 hi iz0 iz1 iz2 rfl qo ov F.length (celS F) (by rfl) ((ownsRow_upd of1 (Upd.of_below (S := []) (Below.trans ((Below.refl _ _).drew) h2)) qi).alloc _) ⟨w2.heap.size, 0, none⟩ 1 1 (stp (app t st) t) (by rfl) (by rfl) (World.news_of_block (cs := (stp (app t st) t).toArray) (t := 130) (fr := (0, 0)) (heap_alloc_new w2 _)) (by simp [stp, Value.oneCell']) qo qm qo (Nat.zero_le _) (w2.heap.size + 1) qi ?_
      intro g2 cap2 w3 hown3 hgrow hat hlt2
      obtain ⟨v5, v6, v7, vz⟩ := growStp hgrow hod yl z5 z6 z7 yz
      have vh := hgrow.size
      (try simp at vh)
      have vl : d < w3.heap.size := by omega
      refine hK.out _ _ v5 (fun hHeld => ?_)
      clear hK K
      try simp only [Act.put, qP]
     rotate_left
     focus
      rw [if_pos (by rfl)]
      obtain ⟨z5, z6, z7⟩ := newStp t st y5 y6 y7
      go_wp2_with fail
      refine hK.out _ _ z5 (fun hHeld => ?_)
      clear hK K
      try simp only [Act.put, qP]
     refine wpAnyH_ready (rs := [4, 17]) qk qi (AllReadyH.cons rfl (fun K hK => ?_) (AllReadyH.cons rfl (fun K hK => ?_) AllReadyH.nil))
     focus
      rw [if_pos (by rfl)]
      go_wp2_with fail
      refine hK.out _ _ z5 (fun hHeld => ?_)
      clear hK K
      try simp only [Act.put, qP]
      refine qT 6 ?_
      simp only [Act.put, qP]
     refine qR 17 fun K hK => ?_
     focus
      rw [if_pos (by rfl)]
      refine wp_append_lies _ _ _ _ (by rfl) 0 130 i0 _ 3 32 underlying91 hi iz0 iz1 iz2 rfl qo ov F.length (celS F) (by rfl) ((ownsRow_upd of1 (Upd.of_below (S := []) (Below.trans ((Below.refl _ _).drew) h2)) qi).alloc _) ⟨w2.heap.size, 0, none⟩ 1 1 (stp (app t st) t) (by rfl) (by rfl) (World.news_of_block (cs := (stp (app t st) t).toArray) (t := 130) (fr := (0, 0)) (heap_alloc_new w2 _)) (by simp [stp, Value.oneCell']) qo qm qo (Nat.zero_le _) (w2.heap.size + 1) qi ?_
      intro g2 cap2 w3 hown3 hgrow hat hlt2
      obtain ⟨v5, v6, v7, vz⟩ := growStp hgrow hod yl z5 z6 z7 yz
      have vh := hgrow.size
      (try simp at vh)
      have vl : d < w3.heap.size := by omega
      refine hK.out _ _ v5 (fun hHeld => ?_)
      clear hK K
      try simp only [Act.put, qP]
     rotate_left
     focus
      rw [if_pos (by rfl)]
      refine wp_append_lies _ _ _ _ (by rfl) 0 130 i0 _ 3 32 underlying91 hi iz0 iz1 iz2 rfl qo ov F.length (celS F) (by rfl) ((ownsRow_upd of1 (Upd.of_below (S := []) (Below.trans ((Below.refl _ _).drew) h2)) qi).alloc _) ⟨w2.heap.size, 0, none⟩ 1 1 (stp (app t st) t) (by rfl) (by rfl) (World.news_of_block (cs := (stp (app t st) t).toArray) (t := 130) (fr := (0, 0)) (heap_alloc_new w2 _)) (by simp [stp, Value.oneCell']) qo qm qo (Nat.zero_le _) (w2.heap.size + 1) qi ?_
      intro g2 cap2 w3 hown3 hgrow hat hlt2
      obtain ⟨v5, v6, v7, vz⟩ := growStp hgrow hod yl z5 z6 z7 yz
      have vh := hgrow.size
      (try simp at vh)
      have vl : d < w3.heap.size := by omega
      refine hK.out _ _ v5 (fun hHeld => ?_)
      clear hK K
      try simp only [Act.put, qP]
     refine qR 4 fun K hK => ?_
     focus
      rw [if_pos (by rfl)]
      go_wp2_with fail
      refine hK.out _ _ v5 (fun hHeld => ?_)
      clear hK K
      try simp only [Act.put, qP]
      refine qT 6 ?_
      simp only [Act.put, qP]
     rotate_left
     focus
      rw [if_pos (by rfl)]
      go_wp2_with fail
      refine (HB.out _).mono ?_
      rintro r2 w2 ⟨rfl, h2⟩
      have y5 := memLater h2 u5
      have y6 := memLater h2 u6
      have y7 := memLater h2 u7
      have yz : ∀ o, w2.frozen? ⟨d, o, none⟩ = false := fun o => ((bcell h2).2 d o qs).trans (xz o)
      have yh := h2.size
      (try simp at yh)
      have yl : d < w2.heap.size := by omega
      have ylr : r < w2.heap.size := by omega
      have ylg : g < w2.heap.size := by omega
      go_wp2_with fail
      refine hK.out _ _ y5 (fun hHeld => ?_)
      clear hK K
      try simp only [Act.put, qP]
     refine wpAnyH_ready (rs := [4, 9, 16]) qk qi (AllReadyH.cons rfl (fun K hK => ?_) (AllReadyH.cons rfl (fun K hK => ?_) (AllReadyH.cons rfl (fun K hK => ?_) AllReadyH.nil)))
     focus
      rw [if_pos (by rfl)]
      go_wp2_with fail
      refine hK.out _ _ y5 (fun hHeld => ?_)
      clear hK K
      try simp only [Act.put, qP]
      refine qT 6 ?_
      simp only [Act.put, qP]
     refine wpAnyH_ready (rs := [9, 16]) qk qi (AllReadyH.cons rfl (fun K hK => ?_) (AllReadyH.cons rfl (fun K hK => ?_) AllReadyH.nil))
     focus
      rw [if_pos (by rfl)]
      go_wp2_with fail
      refine hK.out _ _ y5 (fun hHeld => ?_)
      clear hK K
      try simp only [Act.put, qP]
     refine qR 16 fun K hK => ?_
     focus
      rw [if_pos (by rfl)]
      obtain ⟨z5, z6, z7⟩ := newStp t st y5 y6 y7
      go_wp2_with fail
      refine hK.out _ _ z5 (fun hHeld => ?_)
      clear hK K
      try simp only [Act.put, qP]
     refine qR 17 fun K hK => ?_
     focus
      rw [if_pos (by rfl)]
      refine wp_append_lies _ _ _ _ (by rfl) 0 130 i0 _ 3 32 underlying91 hi iz0 iz1 iz2 rfl qo ov F.length (celS F) (by rfl) ((ownsRow_upd of1 (Upd.of_below (S := []) (Below.trans ((Below.refl _ _).drew) h2)) qi).alloc _) ⟨w2.heap.size, 0, none⟩ 1 1 (stp (app t st) t) (by rfl) (by rfl) (World.news_of_block (cs := (stp (app t st) t).toArray) (t := 130) (fr := (0, 0)) (heap_alloc_new w2 _)) (by simp [stp, Value.oneCell']) qo qm qo (Nat.zero_le _) (w2.heap.size + 1) qi ?_
      intro g2 cap2 w3 hown3 hgrow hat hlt2
      obtain ⟨v5, v6, v7, vz⟩ := growStp hgrow hod yl z5 z6 z7 yz
      have vh := hgrow.size
      (try simp at vh)
      have vl : d < w3.heap.size := by omega
      refine hK.out _ _ v5 (fun hHeld => ?_)
      clear hK K
      try simp only [Act.put, qP]
     rotate_left
     focus
      rw [if_pos (by rfl)]
      obtain ⟨z5, z6, z7⟩ := newStp t st y5 y6 y7
      go_wp2_with fail
      refine hK.out _ _ z5 (fun hHeld => ?_)
      clear hK K
      try simp only [Act.put, qP]
     refine qR 9 fun K hK => ?_
     focus
      rw [if_pos (by rfl)]
      go_wp2_with fail
      refine hK.out _ _ z5 (fun hHeld => ?_)
      clear hK K
      try simp only [Act.put, qP]
     refine qR 17 fun K hK => ?_
     focus
      rw [if_pos (by rfl)]
      refine wp_append_lies _ _ _ _ (by rfl) 0 130 i0 _ 3 32 underlying91 hi iz0 iz1 iz2 rfl qo ov F.length (celS F) (by rfl) ((ownsRow_upd of1 (Upd.of_below (S := []) (Below.trans ((Below.refl _ _).drew) h2)) qi).alloc _) ⟨w2.heap.size, 0, none⟩ 1 1 (stp (app t st) t) (by rfl) (by rfl) (World.news_of_block (cs := (stp (app t st) t).toArray) (t := 130) (fr := (0, 0)) (heap_alloc_new w2 _)) (by simp [stp, Value.oneCell']) qo qm qo (Nat.zero_le _) (w2.heap.size + 1) qi ?_
      intro g2 cap2 w3 hown3 hgrow hat hlt2
      obtain ⟨v5, v6, v7, vz⟩ := growStp hgrow hod yl z5 z6 z7 yz
      have vh := hgrow.size
      (try simp at vh)
      have vl : d < w3.heap.size := by omega
      refine hK.out _ _ v5 (fun hHeld => ?_)
      clear hK K
      try simp only [Act.put, qP]
     rotate_left
     focus
      rw [if_pos (by rfl)]
      go_wp2_with fail
      refine hK.out _ _ y5 (fun hHeld => ?_)
      clear hK K
      try simp only [Act.put, qP]
     refine wpAnyH_ready (rs := [4, 16]) qk qi (AllReadyH.cons rfl (fun K hK => ?_) (AllReadyH.cons rfl (fun K hK => ?_) AllReadyH.nil))
     focus
      rw [if_pos (by rfl)]
      go_wp2_with fail
      refine hK.out _ _ y5 (fun hHeld => ?_)
      clear hK K
      try simp only [Act.put, qP]
      refine qT 6 ?_
      simp only [Act.put, qP]
     refine qR 16 fun K hK => ?_
     focus
      rw [if_pos (by rfl)]
      obtain ⟨z5, z6, z7⟩ := newStp t st y5 y6 y7
      go_wp2_with fail
      refine hK.out _ _ z5 (fun hHeld => ?_)
      clear hK K
      try simp only [Act.put, qP]
     refine qR 17 fun K hK => ?_
     focus
      rw [if_pos (by rfl)]
      refine wp_append_lies _ _ _ _ (by rfl) 0 130 i0 _ 3 32 underlying91 hi iz0 iz1 iz2 rfl qo ov F.length (celS F) (by rfl) ((ownsRow_upd of1 (Upd.of_below (S := []) (Below.trans ((Below.refl _ _).drew) h2)) qi).alloc _) ⟨w2.heap.size, 0, none⟩ 1 1 (stp (app t st) t) (by rfl) (by rfl) (World.news_of_block (cs := (stp (app t st) t).toArray) (t := 130) (fr := (0, 0)) (heap_alloc_new w2 _)) (by simp [stp, Value.oneCell']) qo qm qo (Nat.zero_le _) (w2.heap.size + 1) qi ?_
      intro g2 cap2 w3 hown3 hgrow hat hlt2
      obtain ⟨v5, v6, v7, vz⟩ := growStp hgrow hod yl z5 z6 z7 yz
      have vh := hgrow.size
      (try simp at vh)
      have vl : d < w3.heap.size := by omega
      refine hK.out _ _ v5 (fun hHeld => ?_)
      clear hK K
      try simp only [Act.put, qP]
     rotate_left
     focus
      rw [if_pos (by rfl)]
      obtain ⟨z5, z6, z7⟩ := newStp t st y5 y6 y7
      go_wp2_with fail
      refine hK.out _ _ z5 (fun hHeld => ?_)
      clear hK K
      try simp only [Act.put, qP]
     refine wpAnyH_ready (rs := [4, 17]) qk qi (AllReadyH.cons rfl (fun K hK => ?_) (AllReadyH.cons rfl (fun K hK => ?_) AllReadyH.nil))
     focus
      rw [if_pos (by rfl)]
      go_wp2_with fail
      refine hK.out _ _ z5 (fun hHeld => ?_)
      clear hK K
      try simp only [Act.put, qP]
      refine qT 6 ?_
      simp only [Act.put, qP]
     refine qR 17 fun K hK => ?_
     focus
      rw [if_pos (by rfl)]
      refine wp_append_lies _ _ _ _ (by rfl) 0 130 i0 _ 3 32 underlying91 hi iz0 iz1 iz2 rfl qo ov F.length (celS F) (by rfl) ((ownsRow_upd of1 (Upd.of_below (S := []) (Below.trans ((Below.refl _ _).drew) h2)) qi).alloc _) ⟨w2.heap.size, 0, none⟩ 1 1 (stp (app t st) t) (by rfl) (by rfl) (World.news_of_block (cs := (stp (app t st) t).toArray) (t := 130) (fr := (0, 0)) (heap_alloc_new w2 _)) (by simp [stp, Value.oneCell']) qo qm qo (Nat.zero_le _) (w2.heap.size + 1) qi ?_
      intro g2 cap2 w3 hown3 hgrow hat hlt2
      obtain ⟨v5, v6, v7, vz⟩ := growStp hgrow hod yl z5 z6 z7 yz
      have vh := hgrow.size
      (try simp at vh)
      have vl : d < w3.heap.size := by omega
      refine hK.out _ _ v5 (fun hHeld => ?_)
      clear hK K
      try simp only [Act.put, qP]
     rotate_left
     focus
      rw [if_pos (by rfl)]
      refine wp_append_lies _ _ _ _ (by rfl) 0 130 i0 _ 3 32 underlying91 hi iz0 iz1 iz2 rfl qo ov F.length (celS F) (by rfl) ((ownsRow_upd of1 (Upd.of_below (S := []) (Below.trans ((Below.refl _ _).drew) h2)) qi).alloc _) ⟨w2.heap.size, 0, none⟩ 1 1 (stp (app t st) t) (by rfl) (by rfl) (World.news_of_block (cs := (stp (app t st) t).toArray) (t := 130) (fr := (0, 0)) (heap_alloc_new w2 _)) (by simp [stp, Value.oneCell']) qo qm qo (Nat.zero_le _) (w2.heap.size + 1) qi ?_
      intro g2 cap2 w3 hown3 hgrow hat hlt2
      obtain ⟨v5, v6, v7, vz⟩ := growStp hgrow hod yl z5 z6 z7 yz
      have vh := hgrow.size
      (try simp at vh)
      have vl : d < w3.heap.size := by omega
      refine hK.out _ _ v5 (fun hHeld => ?_)
      clear hK K
      try simp only [Act.put, qP]
     refine qR 4 fun K hK => ?_
     focus
      rw [if_pos (by rfl)]
      go_wp2_with fail
      refine hK.out _ _ v5 (fun hHeld => ?_)
      clear hK K
      try simp only [Act.put, qP]
      refine qT 6 ?_
      simp only [Act.put, qP]
     rotate_left
     focus
      rw [if_pos (by rfl)]
      obtain ⟨z5, z6, z7⟩ := newStp t st y5 y6 y7
      go_wp2_with fail
      refine hK.out _ _ z5 (fun hHeld => ?_)
      clear hK K
      try simp only [Act.put, qP]
     refine wpAnyH_ready (rs := [4, 9]) qk qi (AllReadyH.cons rfl (fun K hK => ?_) (AllReadyH.cons rfl (fun K hK => ?_) AllReadyH.nil))
     focus
      rw [if_pos (by rfl)]
      go_wp2_with fail
      refine hK.out _ _ z5 (fun hHeld => ?_)
      clear hK K
      try simp only [Act.put, qP]
      refine qT 6 ?_
      simp only [Act.put, qP]
     refine qR 9 fun K hK => ?_
     focus
      rw [if_pos (by rfl)]
      go_wp2_with fail
      refine hK.out _ _ z5 (fun hHeld => ?_)
      clear hK K
      try simp only [Act.put, qP]
     refine qR 17 fun K hK => ?_
     focus
      rw [if_pos (by rfl)]
      refine wp_append_lies _ _ _ _ (by rfl) 0 130 i0 _ 3 32 underlying91 hi iz0 iz1 iz2 rfl qo ov F.length (celS F) (by rfl) ((ownsRow_upd of1 (Upd.of_below (S := []) (Below.trans ((Below.refl _ _).drew) h2)) qi).alloc _) ⟨w2.heap.size, 0, none⟩ 1 1 (stp (app t st) t) (by rfl) (by rfl) (World.news_of_block (cs := (stp (app t st) t).toArray) (t := 130) (fr := (0, 0)) (heap_alloc_new w2 _)) (by simp [stp, Value.oneCell']) qo qm qo (Nat.zero_le _) (w2.heap.size + 1) qi ?_
      intro g2 cap2 w3 hown3 hgrow hat hlt2
      obtain ⟨v5, v6, v7, vz⟩ := growStp hgrow hod yl z5 z6 z7 yz
      have vh := hgrow.size
      (try simp at vh)
      have vl : d < w3.heap.size := by omega
      refine hK.out _ _ v5 (fun hHeld => ?_)
      clear hK K
      try simp only [Act.put, qP]
     rotate_left
     focus
      rw [if_pos (by rfl)]
      go_wp2_with fail
      refine hK.out _ _ z5 (fun hHeld => ?_)
      clear hK K
      try simp only [Act.put, qP]
     refine wpAnyH_ready (rs := [4, 17]) qk qi (AllReadyH.cons rfl (fun K hK => ?_) (AllReadyH.cons rfl (fun K hK => ?_) AllReadyH.nil))
     focus
      rw [if_pos (by rfl)]
      go_wp2_with fail
      refine hK.out _ _ z5 (fun hHeld => ?_)
      clear hK K
      try simp only [Act.put, qP]
      refine qT 6 ?_
      simp only [Act.put, qP]
     refine qR 17 fun K hK => ?_
     focus
      rw [if_pos (by rfl)]
      refine wp_append_lies _ _ _ _ (by rfl) 0 130 i0 _ 3 32 underlying91 hi iz0 iz1 iz2 rfl qo ov F.length (celS F) (by rfl) ((ownsRow_upd of1 (Upd.of_below (S := []) (Below.trans ((Below.refl _ _).drew) h2)) qi).alloc _) ⟨w2.heap.size, 0, none⟩ 1 1 (stp (app t st) t) (by rfl) (by rfl) (World.news_of_block (cs := (stp (app t st) t).toArray) (t := 130) (fr := (0, 0)) (heap_alloc_new w2 _)) (by simp [stp, Value.oneCell']) qo qm qo (Nat.zero_le _) (w2.heap.size + 1) qi ?_
      intro g2 cap2 w3 hown3 hgrow hat hlt2
      obtain ⟨v5, v6, v7, vz⟩ := growStp hgrow hod yl z5 z6 z7 yz
      have vh := hgrow.size
      (try simp at vh)
      have vl : d < w3.heap.size := by omega
      refine hK.out _ _ v5 (fun hHeld => ?_)
      clear hK K
      try simp only [Act.put, qP]
     rotate_left
     focus
      rw [if_pos (by rfl)]
      refine wp_append_lies _ _ _ _ (by rfl) 0 130 i0 _ 3 32 underlying91 hi iz0 iz1 iz2 rfl qo ov F.length (celS F) (by rfl) ((ownsRow_upd of1 (Upd.of_below (S := []) (Below.trans ((Below.refl _ _).drew) h2)) qi).alloc _) ⟨w2.heap.size, 0, none⟩ 1 1 (stp (app t st) t) (by rfl) (by rfl) (World.news_of_block (cs := (stp (app t st) t).toArray) (t := 130) (fr := (0, 0)) (heap_alloc_new w2 _)) (by simp [stp, Value.oneCell']) qo qm qo (Nat.zero_le _) (w2.heap.size + 1) qi ?_
      intro g2 cap2 w3 hown3 hgrow hat hlt2
      obtain ⟨v5, v6, v7, vz⟩ := growStp hgrow hod yl z5 z6 z7 yz
      have vh := hgrow.size
      (try simp at vh)
      have vl : d < w3.heap.size := by omega
      refine hK.out _ _ v5 (fun hHeld => ?_)
      clear hK K
      try simp only [Act.put, qP]
     refine qR 4 fun K hK => ?_
     focus
      rw [if_pos (by rfl)]
      go_wp2_with fail
      refine hK.out _ _ v5 (fun hHeld => ?_)
      clear hK K
      try simp only [Act.put, qP]
      refine qT 6 ?_
      simp only [Act.put, qP]
     rotate_left
     all_goals
      refine qT 18 ?_
      simp only [Act.put, qP]
      refine qR 19 fun K hK => ?_
      rw [if_pos (by rfl)]
      go_wp2_with fail
      refine hK.out _ _ ?_ (fun hHeld => ?_)
      ·go_simp
      clear hK K
      try simp only [Act.put, qP]
      refine qT 20 ?_
      simp only [Act.put, qP]
      refine qR 21 fun K hK => ?_
      rw [if_pos (by rfl)]
      go_wp2_with fail
      refine hK.out _ _ ?_ (fun hHeld => ?_)
      ·go_simp
      clear hK K
      try simp only [Act.put, qP]
      refine wpAnyH_done qk ?_ _
      go_wp2
      refine ⟨⟨k + 1, .slice (some ⟨g2, 0, none⟩) (F.length + 1) cap2, by omega, by go_num, ?_⟩, ?_⟩
      ·rw [hs1]; exact HsAt.next h h1 h2 hown3 hgrow hat hL
      ·simp [intOf] <;> omega
   ·have hkK : k = K := by omega
    subst hkK
    go_wp2
    go_ret2
    exact ⟨rfl, ov, h⟩
