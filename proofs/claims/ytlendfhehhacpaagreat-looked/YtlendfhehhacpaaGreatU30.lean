/- A part. -/
import Derived.Test.YtlendfhehhacpaaGreatU27
import Derived.Test.YtlendfhehhacpaaGreatU25
import Derived.Deep.AppendLies
set_option linter.unusedVariables false
set_option linter.unusedSimpArgs false
set_option maxRecDepth 100000
set_option maxHeartbeats 8000000
namespace Go.Proofs.YtlendfhehhacpaaGreat
open Go.RowKit Nib Tryz
theorem infoStep : (Tryz.prog.info? 130).map (fun i => (i.zero, i.size, i.bytes)) = some (some (.agg #[.int .i64 0, .int .i64 0, .string ⟨#[]⟩]), 3, 32) := by kernel_rfl
theorem mem_ownC {tv : Value} {k : Nat} : k ∈ own tv ↔ tv.ownBlock = some k := by
 unfold own
 cases tv.ownBlock <;> simp [eq_comm]
def stp (s t : ByteArray) : List Value := [.int .i64 (ahd s t : Nat), .int .i64 ((s.size - bhd s t : Nat) : Int), .string (brt s t)]
theorem qt7 {P : Prop} (h : P := by
  clear hK K
  try simp only [Act.put, qP]
  refine qR 12 fun K hK => ?_
  rw [if_pos (by rfl)]
  refine wp_append_lies _ _ _ _ (by rfl) 0 130 i0 _ 3 32 underlying91 hi iz0 iz1 iz2 rfl qo bk n xs (by rfl) (ho2.alloc _) ⟨w2.heap.size, 0, none⟩ 1 1 [.int .i64 (A : Nat), .int .i64 (E1 : Nat), .string X] (by rfl) (by rfl) (World.news_of_block (cs := #[.int .i64 (A : Nat), .int .i64 (E1 : Nat), .string X]) (t := 130) (fr := (0, 0)) (heap_alloc_new w2 _)) (by simp [Value.oneCell']) qo qm qo (Nat.zero_le _) (w2.heap.size + 1) qi ?_
  intro g cap w3 hown3 hgrow hat hlt
  have y5 := (hgrow.cell_far ⟨d, 5, none⟩ qs (Ne.symm hbd)).trans (memLater ((Below.refl _ _).alloc (Nat.le_refl _) _) x5)
  have y6 := (hgrow.cell_far ⟨d, 6, none⟩ qs (Ne.symm hbd)).trans (memLater ((Below.refl _ _).alloc (Nat.le_refl _) _) x6)
  have y7 := (hgrow.cell_far ⟨d, 7, none⟩ qs (Ne.symm hbd)).trans (memLater ((Below.refl _ _).alloc (Nat.le_refl _) _) x7)
  have yz : ∀ o, w3.frozen? ⟨d, o, none⟩ = false := (fun o => (hgrow.frozen_far ⟨d, o, none⟩ qs (Ne.symm hbd)).trans (((bcell ((Below.refl _ (w2)).alloc (Nat.le_refl _) _)).2 d o xl).trans (xz o)))
  have hzg := hgrow.size
  (try simp at hzg)
  have yl : d < w3.heap.size := qo
  refine hK.out _ _ y5 (fun hHeld => ?_)
  clear hK K
  try simp only [Act.put, qP]
  refine qT 13 ?_
  simp only [Act.put, qP]
  refine qT 14 ?_
  simp only [Act.put, qP]
  refine qR 15 fun K hK => ?_
  rw [if_pos (by rfl)]
  go_wp2_with fail
  refine hK.out _ _ ?_ (fun hHeld => ?_)
  ·go_simp
  clear hK K
  try simp only [Act.put, qP]
  refine wpAnyH_done qk ?_ _
  go_wp2
  have H3 : RdAt w3 r d p := (((H.drew).below h2).alloc _).of_block (hgrow.block r qs (Ne.symm hbr)) (hgrow.block d qs (Ne.symm hbd)) hgrow.size
  have hgd : g ≠ d := by
   rcases hat with e | e
   ·intro e2; rw [e2] at e; exact hbd e
   ·omega
  first | go_end0 | refine bodyPost_ret (results_none rfl _ _ _) rfl ?_
  refine ⟨rfl, g, cap, ((H3.set_back _).set_now _).set_forth _, ?_, ?_, ?_⟩
  ·refine ownsRow_upd hown3 (Upd.setCell (Upd.setCell (Upd.setCell (Upd.refl [d] _) (Or.inl qi) _) (Or.inl qi) _) (Or.inl qi) _) ?_
   intro k hk
   simp at hk
   subst hk
   simp [Value.ownBlock, hgd]
  ·rcases hat with e | e
   ·exact Or.inl e
   ·exact Or.inr qo
  ·have U3 : Upd (d :: own bk) (w2.alloc (.cells #[.int .i64 (A : Nat), .int .i64 (E1 : Nat), .string X] 130)) w3 := ⟨hgrow.os, hgrow.tape, hgrow.output, hgrow.size, fun k hk hk2 => hgrow.block k hk (fun e => hk2 (List.mem_cons_of_mem _ (mem_ownC.2 e.symm)))⟩
   refine Upd.setCell (Upd.setCell (Upd.setCell ?_ (Or.inl qi) _) (Or.inl qi) _) (Or.inl qi) _
   exact Upd.trans (Upd.alloc (Upd.below (Upd.drew (Upd.refl _ _)) h2) _) U3
 ) : P := h
theorem hKeep_new (r d : Nat) (p : Pg) (n : Nat) (xs : List Value) (w : World) (h : RdAt w r d p)
  (ho : w.ownsRow 0 130 3 p.back n xs) (hbd : p.back.ownBlock ≠ some d) (hbr : p.back.ownBlock ≠ some r) (hn : n ≤ 1000000) (hne : ¬ p.t = p.now) (hs : p.t.size ≤ 1000) (hs2 : p.now.size ≤ 1000) :
  Calls Tryz.prog 49 #[.pointer (some ⟨d, 5, none⟩), .string p.t] w fun e w' => e = .returned (.tuple #[]) ∧ ∃ g cap, RdAt w' r d { p with now := p.t, back := .slice (some ⟨g, 0, none⟩) (n + 1) cap, forth := .slice none 0 0 } ∧ w'.ownsRow 0 130 3 (.slice (some ⟨g, 0, none⟩) (n + 1) cap) (n + 1) (xs ++ stp p.t p.now) ∧ (p.back.ownBlock = some g ∨ w.heap.size ≤ g) ∧ Upd (d :: own p.back) w w' := by
 have HB : qH 67 #[.string p.t, .string p.now] (.agg #[.int .i64 (ahd p.t p.now : Nat), .int .i64 ((p.t.size - bhd p.t p.now : Nat) : Int), .string (brt p.t p.now)]) := fun ww => hBetween p.t p.now ww hs hs2
 have hne' : (p.t.toList == p.now.toList) = false := by
  rw [beq_eq_false_iff_ne]
  intro hx
  apply hne
  rw [ByteArray.toList_eq, ByteArray.toList_eq] at hx
  exact ByteArray.ext (Array.ext' hx)
 have H := h
 have c5 := h.dk.c5
 have c6 := h.dk.c6
 have c7 := h.dk.c7
 have fz := h.dk.fz
 have hld := h.dk.lt
 have hlr := h.bg.lt
 have hrd := h.ne
 unfold stp
 generalize ahd p.t p.now = A at *
 generalize p.t.size - bhd p.t p.now = E1 at *
 generalize brt p.t p.now = X at *
 generalize hbk : p.back = bk at *
 obtain ⟨i0, hi, iz0, iz1, iz2⟩ := info_parts infoStep
 clear h
 go_enter func49, ntmps49
 go_wp2_with fail
 refine wp_region_held_drew (S := fun ww => ww.cell? ⟨d, 5, none⟩ = some (.string p.now)) qk ?_ (fun hHeld => ?_)
 ·exact memLater ((Below.refl _ _).drew) c5
 refine qT 0 ?_
 simp only [Act.put, qP]
 refine qT 1 ?_
 simp only [Act.put, qP]
 refine qT 2 ?_
 simp only [Act.put, qP]
 refine qT 3 ?_
 simp only [Act.put, qP]
 refine qT 5 ?_
 simp only [Act.put, qP]
 refine qT 6 ?_
 simp only [Act.put, qP]
 refine qT 7 ?_
 simp only [Act.put, qP]
 refine qT 8 ?_
 simp only [Act.put, qP]
 refine qT 9 ?_
 simp only [Act.put, qP]
 have c6' : w.drew.cell? ⟨d, 6, none⟩ = some bk := memLater ((Below.refl _ _).drew) c6
 refine wpAnyH_ready (rs := [4, 10]) qk qi (AllReadyH.cons rfl (fun K hK => ?_) (AllReadyH.cons rfl (fun K hK => ?_) AllReadyH.nil))
 ·rw [if_pos (by rfl)]
  go_wp2_with fail
  refine hK.out _ _ ?_ (fun hHeld => ?_)
  ·exact memLater ((Below.refl _ _).drew) c5
  clear hK K
  try simp only [Act.put, qP]
  refine qR 10 fun K hK => ?_
  rw [if_pos (by rfl)]
  go_wp2_with fail
  refine (HB.out _).mono ?_
  rintro r2 w2 ⟨rfl, h2⟩
  obtain ⟨hc2, hf2, hz2⟩ := qb h2
  (try simp at hz2)
  go_wp2_with fail
  refine hK.out _ _ ?_ (fun hHeld => ?_)
  ·exact memLater h2 (memLater ((Below.refl _ _).drew) c5)
  clear hK K
  try simp only [Act.put, qP]
  have hzz := h2.size
  (try simp at hzz)
  have x5 := memLater h2 (memLater ((Below.refl _ _).drew) c5)
  have x6 := memLater h2 (memLater ((Below.refl _ _).drew) c6)
  have x7 := memLater h2 (memLater ((Below.refl _ _).drew) c7)
  have xz : ∀ o, w2.frozen? ⟨d, o, none⟩ = false := (fun o => ((bcell h2).2 d o qs).trans (fz o))
  have xl : d < w2.heap.size := qo
  have ho2 := ownsRow_upd ho (Upd.of_below (S := []) (Below.trans ((Below.refl _ _).drew) h2)) qi
  refine qR 11 fun K hK => ?_
  rw [if_pos (by rfl)]
  go_wp2_with fail
  refine hK.out _ _ ?_ (fun hHeld => ?_)
  ·exact (memLater ((Below.refl _ _).alloc (Nat.le_refl _) _) x5)
  exact qt7
 ·rw [if_pos (by rfl)]
  go_wp2_with fail
  refine (HB.out _).mono ?_
  rintro r2 w2 ⟨rfl, h2⟩
  go_wp2_with fail
  refine hK.out _ _ ?_ (fun hHeld => ?_)
  ·exact memLater h2 (memLater ((Below.refl _ _).drew) c5)
  clear hK K
  try simp only [Act.put, qP]
  have hzz := h2.size
  (try simp at hzz)
  have x5 := memLater h2 (memLater ((Below.refl _ _).drew) c5)
  have x6 := memLater h2 (memLater ((Below.refl _ _).drew) c6)
  have x7 := memLater h2 (memLater ((Below.refl _ _).drew) c7)
  have xz : ∀ o, w2.frozen? ⟨d, o, none⟩ = false := (fun o => ((bcell h2).2 d o qs).trans (fz o))
  have xl : d < w2.heap.size := qo
  have ho2 := ownsRow_upd ho (Upd.of_below (S := []) (Below.trans ((Below.refl _ _).drew) h2)) qi
  refine wpAnyH_ready (rs := [4, 11]) qk qi (AllReadyH.cons rfl (fun K hK => ?_) (AllReadyH.cons rfl (fun K hK => ?_) AllReadyH.nil))
  ·rw [if_pos (by rfl)]
   go_wp2_with fail
   refine hK.out _ _ x5 (fun hHeld => ?_)
   clear hK K
   try simp only [Act.put, qP]
   refine qR 11 fun K hK => ?_
   rw [if_pos (by rfl)]
   go_wp2_with fail
   refine hK.out _ _ ?_ (fun hHeld => ?_)
   ·exact (memLater ((Below.refl _ _).alloc (Nat.le_refl _) _) x5)
   exact qt7
  ·rw [if_pos (by rfl)]
   go_wp2_with fail
   have z5 := (memLater ((Below.refl _ w2).alloc (Nat.le_refl _) (.cells #[.int .i64 (A : Nat), .int .i64 (E1 : Nat), .string X] 130)) x5)
   have z6 := (memLater ((Below.refl _ w2).alloc (Nat.le_refl _) (.cells #[.int .i64 (A : Nat), .int .i64 (E1 : Nat), .string X] 130)) x6)
   refine hK.out _ _ z5 (fun hHeld => ?_)
   clear hK K
   try simp only [Act.put, qP]
   refine qR 4 fun K hK => ?_
   rw [if_pos (by rfl)]
   go_wp2_with fail
   refine hK.out _ _ z5 (fun hHeld => ?_)
   exact qt7
