/- A part. -/
import Derived.Test.YtlendfhehhacpaaGreatT36
set_option linter.unusedVariables false
set_option linter.unusedSimpArgs false
set_option maxRecDepth 100000
set_option maxHeartbeats 8000000
namespace Go.Proofs.YtlendfhehhacpaaGreat
open Go.RowKit Nib Tryz
theorem mToVerb (r d : Nat) (p : Pg) (key : Int) (w : World) (h : RdAt w r d p) :
  Calls Tryz.prog 143 #[.agg #[.pointer (some ⟨r, 0, none⟩)], .int .u8 key] w fun e w' => e = .returned (.int .i64 0) ∧ RdAt w' r d { p with verb := key } ∧ Upd [r] w w' := by
 have HS := h.set_verb key
 have b3 := h.bg.c3
 have bz := h.bg.fz
 have bl := h.bg.lt
 have l1 : r < w.heap.size + 1 := by omega
 generalize hp2 : ({ p with verb := key } : Pg) = p2 at *
 clear hp2
 have HS' : Hid (RdAt (w.setCell ⟨r, 3, none⟩ (.int .u8 key)) r d p2) := HS
 clear HS h
 go_enter func143, ntmps143
 go_wp2
 go_ret
 refine ⟨rfl, ?_, ?_⟩
 ·repeat (with_reducible first | exact HS'.out | refine r_o ?_ _ | refine RdAt.alloc ?_ _ | refine RdAt.drewN ?_ _ | refine RdAt.drew ?_)
 ·repeat exact qU
theorem mGrasp_fail (r : Nat) (i j : Int) (l : Bool) (w : World) :
  qC 170 #[.pointer (some ⟨r, 0, none⟩), .agg #[.int .i64 i, .int .i64 j, .bool l], .bool false] w (.int .i64 4) := by
 go_enter func170, ntmps170
 go_wp2
 go_ret
 refine ⟨rfl, ?_⟩
 repeat exact qB
theorem mGrasp_verb (r d : Nat) (p : Pg) (O : Int) (i j : Int) (l : Bool) (A B : World → Prop) (T : List Nat) (w : World) (hA : A w) (fA : Firm A) (fB : Firm B) (hr : HasR A r d p) (hT : r ∉ T) (hTl : ∀ k, k ∈ T → k < w.heap.size) (hv : ¬ p.verb = 0)
  (HD : GivesB 146 #[.pointer (some ⟨r, 0, none⟩), .int .u8 p.verb, .agg #[.int .i64 i, .int .i64 j, .bool l]] A B O T) :
  Calls Tryz.prog 170 #[.pointer (some ⟨r, 0, none⟩), .agg #[.int .i64 i, .int .i64 j, .bool l], .bool true] w fun e w' => e = .returned (.int .i64 O) ∧ B w' ∧ Upd T w w' := by
 have h := hr w hA
 have hv' : (p.verb == 0) = false := by simp [hv]
 have hv2 : (p.verb != 0) = true := by simp [hv]
 have r3 := h.bg.c3
 have hlr := h.bg.lt
 have hTw : w.heap.size ∉ T := fun hk => by have := hTl _ hk; omega
 clear h hv
 have l1 : r < w.heap.size + 1 := by omega
 go_enter func170, ntmps170
 have g0 : (w.alloc (.cells #[.int .i64 i, .int .i64 j, .bool l] 186)).cell? ⟨w.heap.size, 0, none⟩ = some (.int .i64 i) := by simp
 have g1 : (w.alloc (.cells #[.int .i64 i, .int .i64 j, .bool l] 186)).cell? ⟨w.heap.size, 1, none⟩ = some (.int .i64 j) := by simp
 have g2 : (w.alloc (.cells #[.int .i64 i, .int .i64 j, .bool l] 186)).cell? ⟨w.heap.size, 2, none⟩ = some (.bool l) := by simp
 have g3 : (w.alloc (.cells #[.int .i64 i, .int .i64 j, .bool l] 186)).cell? ⟨r, 3, none⟩ = some (.int .u8 p.verb) := memLater ((Below.refl _ _).alloc (Nat.le_refl _) _) r3
 go_wp2_with fail
 go_region_held3 (fun ww => ww.cell? ⟨r, 3, none⟩ = some (.int .u8 p.verb) ∧ ww.cell? ⟨w.heap.size, 0, none⟩ = some (.int .i64 i) ∧ ww.cell? ⟨w.heap.size, 1, none⟩ = some (.int .i64 j) ∧ ww.cell? ⟨w.heap.size, 2, none⟩ = some (.bool l)) (exact qK) ((go_at_call 146; refine Calls.mono (HD.out _ (fA _ _ hA qB)) ?_; rintro r3 w3 ⟨rfl, h3, u3⟩; have hz3 := u3.size; (try simp at hz3); have a0 := u3.was (memLater ((Below.refl _ _).drew) g3) hT; have a1 := u3.was (memLater ((Below.refl _ _).drew) g0) hTw; have a2 := u3.was (memLater ((Below.refl _ _).drew) g1) hTw; have a3 := u3.was (memLater ((Below.refl _ _).drew) g2) hTw))
 exact qt61
theorem mGrasp_mark (r d : Nat) (p : Pg) (O : Int) (i j : Int) (l : Bool) (A B : World → Prop) (T : List Nat) (w : World) (hA : A w) (fA : Firm A) (fB : Firm B) (hr : HasR A r d p) (hv : p.verb = 0)
  (HD : GivesB 213 #[.pointer (some ⟨r, 0, none⟩), .agg #[.int .i64 i, .int .i64 j, .bool l]] A B O T) :
  Calls Tryz.prog 170 #[.pointer (some ⟨r, 0, none⟩), .agg #[.int .i64 i, .int .i64 j, .bool l], .bool true] w fun e w' => e = .returned (.int .i64 O) ∧ B w' ∧ Upd T w w' := by
 have h := hr w hA
 have r3 := h.bg.c3
 rw [hv] at r3
 have hlr := h.bg.lt
 have l1 : r < w.heap.size + 1 := by omega
 clear h hv
 go_enter func170, ntmps170
 go_wp2_with fail
 refine Calls.mono (HD.out _ (fA _ _ hA qB)) ?_
 exact qt24
theorem qt14 {P : Prop} (h : P := by
  have e0 := memLater ((Below.refl _ w).drew) b0
  have e5 := memLater ((Below.refl _ w).drew) b5
  have f0 := memLater ((Below.refl _ w).drew) c0
  have f1 := memLater ((Below.refl _ w).drew) c1
  refine qT 0 ?_
  simp only [Act.put, qP]
  refine qT 1 ?_
  simp only [Act.put, qP]
  refine qT 2 ?_
  simp only [Act.put, qP]
  refine qT 3 ?_
  simp only [Act.put, qP]
  refine qT 4 ?_
  simp only [Act.put, qP]
  refine qT 5 ?_
  simp only [Act.put, qP]
  refine qT 6 ?_
  simp only [Act.put, qP]
  refine qT 7 ?_
  simp only [Act.put, qP]
  refine qT 9 ?_
  simp only [Act.put, qP]
  refine qT 10 ?_
  simp only [Act.put, qP]
  refine qT 11 ?_
  simp only [Act.put, qP]
  refine qT 12 ?_
  simp only [Act.put, qP]
  refine qT 13 ?_
  simp only [Act.put, qP]
  refine qT 14 ?_
  simp only [Act.put, qP]
  refine qT 16 ?_
  simp only [Act.put, qP]
  refine qT 17 ?_
  simp only [Act.put, qP]
  refine qT 18 ?_
  simp only [Act.put, qP]
  refine qT 19 ?_
  simp only [Act.put, qP]
  refine qT 20 ?_
  simp only [Act.put, qP]
  refine qT 21 ?_
  simp only [Act.put, qP]
  refine wpAnyH_ready (rs := [8, 15]) qk qi (AllReadyH.cons rfl (fun K hK => ?_) (AllReadyH.cons rfl (fun K hK => ?_) AllReadyH.nil))
  focus
   rw [if_pos (by rfl)]
   go_wp2_with fail
   refine hK.out _ _ ⟨e0, e5⟩ (fun hHeld => ?_)
   clear hK K
   try simp only [Act.put, qP]
   refine qR 15 fun K hK => ?_
   rw [if_pos (by rfl)]
   go_wp2_with fail
   refine hK.out _ _ ?_ (fun hHeld => ?_)
   ·exact ⟨e0, e5⟩
   clear hK K
   try simp only [Act.put, qP]
  rotate_left
  focus
   rw [if_pos (by rfl)]
   go_wp2_with fail
   refine hK.out _ _ ⟨e0, e5⟩ (fun hHeld => ?_)
   clear hK K
   try simp only [Act.put, qP]
   refine qR 8 fun K hK => ?_
   rw [if_pos (by rfl)]
   go_wp2_with fail
   refine hK.out _ _ ?_ (fun hHeld => ?_)
   ·exact ⟨e0, e5⟩
   clear hK K
   try simp only [Act.put, qP]
  all_goals
   refine qT 22 ?_
   simp only [Act.put, qP]
   refine qR 23 fun K hK => ?_
   rw [if_pos (by rfl)]
   go_wp2_with fail
   refine (HF.out _).mono ?_
   rintro r1 w1 ⟨rfl, h1⟩
   obtain ⟨hc1, hf1, hz1⟩ := qb h1
   (try simp at hz1)
   go_wp2_with fail
   refine hK.out _ _ ?_ (fun hHeld => ?_)
   ·exact ⟨memLater h1 e0, memLater h1 e5⟩
   clear hK K
   try simp only [Act.put, qP]
   clear hc1 hf1
   refine qT 24 ?_
   simp only [Act.put, qP]
   refine qT 25 ?_
   simp only [Act.put, qP]
   refine qR 26 fun K hK => ?_
   rw [if_pos (by rfl)]
   go_wp2_with fail
   refine Calls.mono (HG.out _ (fA _ _ hA qB)) ?_
   rintro r3 w3 ⟨rfl, h3, u3⟩
   have hz3 := u3.size
   (try simp at hz3)
   go_wp2_with fail
   refine hK.out _ _ ?_ (fun hHeld => ?_)
   ·exact ⟨u3.was (memLater h1 e0) hT, u3.was (memLater h1 e5) hT⟩
   clear hK K
   try simp only [Act.put, qP]
   refine qT 27 ?_
   simp only [Act.put, qP]
   refine wpAnyH_done qk ?_ _
   go_wp2
   go_ret
   refine ⟨rfl, h3, ?_⟩
   repeat exact qU
 ) : P := h
theorem mComplete_obj (r d : Nat) (p : Pg) (key O : Int) (i j : Int) (l is : Bool) (A B : World → Prop) (T : List Nat) (w : World) (hA : A w) (fA : Firm A) (fB : Firm B) (hr : HasR A r d p) (hT : r ∉ T) (hp : p.part = 105 ∨ p.part = 97)
  (HF : qH 171 #[.int .u8 key, .agg #[.string p.t, .int .i64 p.pl, .bool (p.part == 97)]] (.tuple #[.agg #[.int .i64 i, .int .i64 j, .bool l], .bool is]))
  (HG : GivesB 170 #[.pointer (some ⟨r, 0, none⟩), .agg #[.int .i64 i, .int .i64 j, .bool l], .bool is] A B O T) :
  Calls Tryz.prog 145 #[.pointer (some ⟨r, 0, none⟩), .int .u8 key] w fun e w' => e = .returned (.int .i64 O) ∧ B w' ∧ Upd T w w' := by
 have h := hr w hA
 have b0 := h.bg.c0
 have b5 := h.bg.c5
 have c0 := h.dk.c0
 have c1 := h.dk.c1
 have bl := h.bg.lt
 have dl := h.dk.lt
 generalize p.part = part at *
 clear h
 rcases hp with hp | hp
 ·subst hp
  have HF : qH 171 #[.int .u8 key, .agg #[.string p.t, .int .i64 p.pl, .bool false]] (.tuple #[.agg #[.int .i64 i, .int .i64 j, .bool l], .bool is]) := HF
  go_enter func145, ntmps145
  go_wp2_with fail
  refine wp_region_held_drew (S := fun ww => ww.cell? ⟨r, 0, none⟩ = some (.pointer (some ⟨d, 0, none⟩)) ∧ ww.cell? ⟨r, 5, none⟩ = some (.int .u8 105)) qk ?_ (fun hHeld => ?_)
  ·exact ⟨memLater ((Below.refl _ _).drew) b0, memLater ((Below.refl _ _).drew) b5⟩
  exact qt14
 ·subst hp
  have HF : qH 171 #[.int .u8 key, .agg #[.string p.t, .int .i64 p.pl, .bool true]] (.tuple #[.agg #[.int .i64 i, .int .i64 j, .bool l], .bool is]) := HF
  go_enter func145, ntmps145
  go_wp2_with fail
  refine wp_region_held_drew (S := fun ww => ww.cell? ⟨r, 0, none⟩ = some (.pointer (some ⟨d, 0, none⟩)) ∧ ww.cell? ⟨r, 5, none⟩ = some (.int .u8 97)) qk ?_ (fun hHeld => ?_)
  ·exact ⟨memLater ((Below.refl _ _).drew) b0, memLater ((Below.refl _ _).drew) b5⟩
  exact qt14
theorem mComplete_name (r d : Nat) (p : Pg) (key O : Int) (A B : World → Prop) (T : List Nat) (w : World) (hA : A w) (fA : Firm A) (fB : Firm B) (hr : HasR A r d p) (hp : p.part = 34)
  (HN : GivesB 165 #[.pointer (some ⟨r, 1, none⟩), .int .u8 key] A B O T) :
  Calls Tryz.prog 145 #[.pointer (some ⟨r, 0, none⟩), .int .u8 key] w fun e w' => e = .returned (.int .i64 O) ∧ B w' ∧ Upd T w w' := by
 have h := hr w hA
 have b5 := h.bg.c5
 rw [hp] at b5
 have bl := h.bg.lt
 clear h hp
 go_enter func145, ntmps145
 go_wp2_with fail
 refine Calls.mono (HN.out _ (fA _ _ hA qB)) ?_
 exact qt24
theorem qt75 {P : Prop} (h : P := by
  go_enter func138, ntmps138
  go_wp2_with fail
  refine Calls.mono (HR.out _ (fA _ _ hA qB)) ?_
  exact qt24
 ) : P := h
theorem mNComplete_r (r d : Nat) (p : Pg) (key O : Int) (A B : World → Prop) (T : List Nat) (w : World) (hA : A w) (fA : Firm A) (fB : Firm B) (hr : HasR A r d p) (hp : p.part = 114)
  (HR : GivesB 144 #[.agg #[.pointer (some ⟨r, 0, none⟩)], .int .u8 key] A B O T) :
  Calls Tryz.prog 138 #[.agg #[.pointer (some ⟨r, 0, none⟩)], .int .u8 key] w fun e w' => e = .returned (.int .i64 O) ∧ B w' ∧ Upd T w w' := by
 have h := hr w hA
 have b5 := h.bg.c5
 have b3 := h.bg.c3
 rw [hp] at b5
 have bl := h.bg.lt
 have l1 : r < w.heap.size + 1 := by omega
 clear h hp
 exact qt75
theorem mNComplete_any (r d : Nat) (p : Pg) (key O : Int) (A B : World → Prop) (T : List Nat) (w : World) (hA : A w) (fA : Firm A) (fB : Firm B) (hr : HasR A r d p) (hp : ¬ p.part = 114) (hg : p.part = 103 → p.verb = 0 → ¬ key = 117 ∧ ¬ key = 85)
  (HR : GivesB 145 #[.pointer (some ⟨r, 0, none⟩), .int .u8 key] A B O T) :
  Calls Tryz.prog 138 #[.agg #[.pointer (some ⟨r, 0, none⟩)], .int .u8 key] w fun e w' => e = .returned (.int .i64 O) ∧ B w' ∧ Upd T w w' := by
 have h := hr w hA
 have b5 := h.bg.c5
 have b3 := h.bg.c3
 have bl := h.bg.lt
 have l1 : r < w.heap.size + 1 := by omega
 have hp1 : (p.part == 114) = false := by simp [hp]
 clear h
 by_cases h1 : p.part = 103
 ·by_cases h2 : p.verb = 0
  ·obtain ⟨k1, k2⟩ := hg h1 h2
   rw [h1] at b5
   rw [h2] at b3
   have e1 : (key == 117) = false := by simp [k1]
   have e2 : (key == 85) = false := by simp [k2]
   clear hg hp hp1
   exact qt75
  ·rw [h1] at b5
   have e1 : (p.verb == 0) = false := by simp [h2]
   clear hg hp hp1
   exact qt75
 ·have e1 : (p.part == 103) = false := by simp [h1]
  clear hg hp
  exact qt75
theorem mNComplete_case (r d : Nat) (p : Pg) (key : Int) (w : World) (h : RdAt w r d p) (hp : p.part = 103) (hv : p.verb = 0) (hk : key = 117 ∨ key = 85) :
  Calls Tryz.prog 138 #[.agg #[.pointer (some ⟨r, 0, none⟩)], .int .u8 key] w fun e w' => e = .returned (.int .i64 0) ∧ RdAt w' r d { p with part := 0, verb := key } ∧ Upd [r] w w' := by
 have HA : Hid (∀ ww, RdAt ww r d p → Calls Tryz.prog 142 #[.pointer (some ⟨r, 1, none⟩), .int .u8 0] ww fun e w' => e = .returned (.int .i64 0) ∧ RdAt w' r d { p with part := 0 } ∧ Upd [r] ww w') := fun ww hh => mAwait r d p 0 ww hh
 have HV : Hid (∀ ww, RdAt ww r d { p with part := 0 } → Calls Tryz.prog 143 #[.agg #[.pointer (some ⟨r, 0, none⟩)], .int .u8 key] ww fun e w' => e = .returned (.int .i64 0) ∧ RdAt w' r d { p with part := 0, verb := key } ∧ Upd [r] ww w') := fun ww hh => mToVerb r d { p with part := 0 } key ww hh
 have H := h
 have b5 := h.bg.c5
 have b3 := h.bg.c3
 rw [hp] at b5
 rw [hv] at b3
 have bl := h.bg.lt
 have l1 : r < w.heap.size + 1 := by omega
 generalize hP : ({ p with part := 0, verb := key } : Pg) = p2 at *
 generalize hP3 : ({ p with part := 0 } : Pg) = p3 at *
 clear h hp hv hP hP3
 rcases hk with hk | hk
 all_goals
  subst hk
  go_enter func138, ntmps138
  go_wp2_with fail
  refine Calls.mono (HA.out _ qRd) ?_
  rintro e w1 ⟨rfl, h1, u1⟩
  have g1 : w1.cell? ⟨w.heap.size, 0, none⟩ = some (.pointer (some ⟨r, 0, none⟩)) := u1.was qi qs
  go_wp2_with fail
  refine Calls.mono (HV.out _ h1) ?_
  rintro e w2 ⟨rfl, h2, u2⟩
  go_wp2
  go_ret
  refine ⟨rfl, ?_, ?_⟩
  ·repeat exact qRd
  ·repeat exact qU
