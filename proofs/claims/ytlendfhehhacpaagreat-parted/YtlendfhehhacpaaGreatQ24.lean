/- A part. -/
import Derived.Test.YtlendfhehhacpaaGreatQ17
import Derived.Test.YtlendfhehhacpaaGreatQ21
import Derived.Laws.BytesArg
set_option linter.unusedVariables false
set_option linter.unusedSimpArgs false
set_option maxRecDepth 100000
set_option maxHeartbeats 8000000
namespace Go.Proofs.YtlendfhehhacpaaGreat
open Go.RowKit Nib Tryz
theorem tSeek_91 (s : ByteArray) (q d : Nat) (w : World) (hs : s.size ≤ 1000) (hq : q < s.size) (hd : d ≤ 1) (hd0 : 1 ≤ d ∨ bt s q = 91) :
  qC 287 #[.string s, .int .u8 91, .int .i64 q, .int .i64 d] w (.tuple #[.int .i64 (mtI (mtU s 91 93 (s.size - q) d q)), .bool (mtB (mtU s 91 93 (s.size - q) d q))]) :=
 tSeek_gen 91 93 2 3 qd qd qd qd qd qd qd qd qd s q d w hs hq hd hd0
theorem tSeek_123 (s : ByteArray) (q d : Nat) (w : World) (hs : s.size ≤ 1000) (hq : q < s.size) (hd : d ≤ 1) (hd0 : 1 ≤ d ∨ bt s q = 123) :
  qC 287 #[.string s, .int .u8 123, .int .i64 q, .int .i64 d] w (.tuple #[.int .i64 (mtI (mtU s 123 125 (s.size - q) d q)), .bool (mtB (mtU s 123 125 (s.size - q) d q))]) :=
 tSeek_gen 123 125 4 5 qd qd qd qd qd qd qd qd qd s q d w hs hq hd hd0
theorem tSeekE_41 (s : ByteArray) (q d : Nat) (w : World) (hs : s.size ≤ 1000) (hq : q ≤ s.size) (hd : d ≤ 1) (hd0 : 1 ≤ d ∨ bt s q = 41) :
  qC 287 #[.string s, .int .u8 41, .int .i64 q, .int .i64 d] w (.tuple #[.int .i64 (mtI (mtD s 41 40 d (q + 1))), .bool (mtB (mtD s 41 40 d (q + 1)))]) :=
 tSeekE_gen 41 40 1 0 qd qd qd qd qd qd qd qd qd s q d w hs hq hd hd0
theorem tSeek_41 (s : ByteArray) (q d : Nat) (w : World) (hs : s.size ≤ 1000) (hq : q < s.size) (hd : d ≤ 1) (hd0 : 1 ≤ d ∨ bt s q = 41) :
  qC 287 #[.string s, .int .u8 41, .int .i64 q, .int .i64 d] w (.tuple #[.int .i64 (mtI (mtD s 41 40 d (q + 1))), .bool (mtB (mtD s 41 40 d (q + 1)))]) :=
 tSeekE_41 s q d w hs (Nat.le_of_lt hq) hd hd0
theorem tSeekE_93 (s : ByteArray) (q d : Nat) (w : World) (hs : s.size ≤ 1000) (hq : q ≤ s.size) (hd : d ≤ 1) (hd0 : 1 ≤ d ∨ bt s q = 93) :
  qC 287 #[.string s, .int .u8 93, .int .i64 q, .int .i64 d] w (.tuple #[.int .i64 (mtI (mtD s 93 91 d (q + 1))), .bool (mtB (mtD s 93 91 d (q + 1)))]) :=
 tSeekE_gen 93 91 3 2 qd qd qd qd qd qd qd qd qd s q d w hs hq hd hd0
theorem tSeek_93 (s : ByteArray) (q d : Nat) (w : World) (hs : s.size ≤ 1000) (hq : q < s.size) (hd : d ≤ 1) (hd0 : 1 ≤ d ∨ bt s q = 93) :
  qC 287 #[.string s, .int .u8 93, .int .i64 q, .int .i64 d] w (.tuple #[.int .i64 (mtI (mtD s 93 91 d (q + 1))), .bool (mtB (mtD s 93 91 d (q + 1)))]) :=
 tSeekE_93 s q d w hs (Nat.le_of_lt hq) hd hd0
theorem tSeekE_125 (s : ByteArray) (q d : Nat) (w : World) (hs : s.size ≤ 1000) (hq : q ≤ s.size) (hd : d ≤ 1) (hd0 : 1 ≤ d ∨ bt s q = 125) :
  qC 287 #[.string s, .int .u8 125, .int .i64 q, .int .i64 d] w (.tuple #[.int .i64 (mtI (mtD s 125 123 d (q + 1))), .bool (mtB (mtD s 125 123 d (q + 1)))]) :=
 tSeekE_gen 125 123 5 4 qd qd qd qd qd qd qd qd qd s q d w hs hq hd hd0
theorem tSeek_125 (s : ByteArray) (q d : Nat) (w : World) (hs : s.size ≤ 1000) (hq : q < s.size) (hd : d ≤ 1) (hd0 : 1 ≤ d ∨ bt s q = 125) :
  qC 287 #[.string s, .int .u8 125, .int .i64 q, .int .i64 d] w (.tuple #[.int .i64 (mtI (mtD s 125 123 d (q + 1))), .bool (mtB (mtD s 125 123 d (q + 1)))]) :=
 tSeekE_125 s q d w hs (Nat.le_of_lt hq) hd hd0
theorem mInsertAt (r d : Nat) (p : Pg) (k : Nat) (w : World) (h : RdAt w r d p) :
  Calls Tryz.prog 178 #[.pointer (some ⟨d, 0, none⟩), .int .i64 (k : Nat)] w fun e w' => e = .returned (.int .i64 1) ∧ RdAt w' r d { p with mode := 1, anchor := 0, pl := k } ∧ Upd [d] w w' := by
 have HS := ((h.set_mode 1).set_anchor 0).set_pl k
 have H := h
 obtain ⟨c0, c1, c2, c3, c4, c5, c6, c7, c8, c9, fz, lt⟩ := h.dk
 clear c0 c4 c5 c6 c7 c8 c9 h
 go_enter func178, ntmps178
 go_wp2
 go_ret
 refine ⟨rfl, HS, ?_⟩
 repeat exact qU
def put (t b : ByteArray) (k : Nat) : ByteArray := t.extract 0 k ++ b ++ t.extract k t.size
theorem mWrite_fits (r d : Nat) (p : Pg) (k : Nat) (b : ByteArray) (w : World) (h : RdAt w r d p) (hs : p.t.size ≤ 1000) (hb : b.size ≤ 1000000) (hk : k ≤ p.t.size) (hf : (put p.t b k).size ≤ 1000) :
  Calls Tryz.prog 188 #[.pointer (some ⟨d, 0, none⟩), .int .i64 (k : Nat), .string b] w fun e w' => e = .returned (.bool true) ∧ RdAt w' r d { p with t := put p.t b k } ∧ Upd [d] w w' := by
 have HW : qH 192 #[.string p.t, .agg #[.int .i64 (((k : Nat) : Int)), .int .i64 (((k : Nat) : Int))], .string b] (.string (put p.t b k)) := fun ww => tWith_any p.t b _ _ k k ww hs hb rfl rfl (Nat.le_refl _) hk
 have HB : Hid (∀ ww, RdAt ww r d p → Calls Tryz.prog 175 #[.pointer (some ⟨d, 0, none⟩), .string (put p.t b k)] ww fun e w' => e = .returned (.bool true) ∧ RdAt w' r d { p with t := put p.t b k } ∧ Upd [d] ww w') := fun ww hh => mBecome r d p (put p.t b k) ww hh hf
 have H := h
 have d0 := h.dk.c0
 have hld := h.dk.lt
 generalize hp2 : ({ p with t := put p.t b k } : Pg) = p2 at *
 generalize put p.t b k = X at *
 clear h hp2
 go_enter func188, ntmps188
 go_wp2_with fail
 refine Calls.mono (HW.out _) ?_
 rintro e w1 ⟨rfl, h1⟩
 go_wp2_with fail
 refine Calls.mono (HB.out _ qRd) ?_
 rintro e w2 ⟨rfl, h2, u2⟩
 exact qt16
theorem mWrite_long (r d : Nat) (p : Pg) (k : Nat) (b : ByteArray) (w : World) (h : RdAt w r d p) (hs : p.t.size ≤ 1000) (hb : b.size ≤ 1000000) (hk : k ≤ p.t.size) (hf : 1000 < (put p.t b k).size) :
  qC 188 #[.pointer (some ⟨d, 0, none⟩), .int .i64 (k : Nat), .string b] w (.bool false) := by
 have HW : qH 192 #[.string p.t, .agg #[.int .i64 (((k : Nat) : Int)), .int .i64 (((k : Nat) : Int))], .string b] (.string (put p.t b k)) := fun ww => tWith_any p.t b _ _ k k ww hs hb rfl rfl (Nat.le_refl _) hk
 have HB : Hid (∀ ww, Calls Tryz.prog 175 #[.pointer (some ⟨d, 0, none⟩), .string (put p.t b k)] ww fun e w' => e = .returned (.bool false) ∧ w' = ww) := fun ww => mBecome_long r d (put p.t b k) ww hf
 have d0 := h.dk.c0
 have hld := h.dk.lt
 generalize put p.t b k = X at *
 clear h
 go_enter func188, ntmps188
 go_wp2_with fail
 refine Calls.mono (HW.out _) ?_
 rintro e w1 ⟨rfl, h1⟩
 go_wp2_with fail
 refine Calls.mono (HB.out _) ?_
 rintro e w2 ⟨rfl, rfl⟩
 go_wp2
 go_ret
 refine ⟨rfl, ?_⟩
 repeat exact qB
theorem iPut_fits (r d : Nat) (p : Pg) (b : ByteArray) (w : World) (h : RdAt w r d p) (hs : p.t.size ≤ 1000) (hb : b.size ≤ 1000000) (hk : p.pl ≤ p.t.size) (hf : (put p.t b p.pl).size ≤ 1000) :
  Calls Tryz.prog 306 #[.agg #[.pointer (some ⟨d, 0, none⟩)], .string b] w fun e w' => e = .returned (.tuple #[]) ∧ RdAt w' r d { p with t := put p.t b p.pl, pl := p.pl + b.size } ∧ Upd [d] w w' := by
 have HW : Hid (∀ ww, RdAt ww r d p → Calls Tryz.prog 188 #[.pointer (some ⟨d, 0, none⟩), .int .i64 (p.pl : Nat), .string b] ww fun e w' => e = .returned (.bool true) ∧ RdAt w' r d { p with t := put p.t b p.pl } ∧ Upd [d] ww w') := fun ww hh => mWrite_fits r d p p.pl b ww hh hs hb hk hf
 have HS : Hid (∀ ww, RdAt ww r d { p with t := put p.t b p.pl } → RdAt (ww.setCell ⟨d, 1, none⟩ (.int .i64 ((p.pl : Int) + b.size))) r d { p with t := put p.t b p.pl, pl := p.pl + b.size }) := fun ww hh => by
  have := hh.set_pl (p.pl + b.size)
  rw [show (((p.pl + b.size : Nat) : Int)) = (p.pl : Int) + b.size by omega] at this
  exact this
 have H := h
 have d1 := h.dk.c1
 have hld := h.dk.lt
 have l1 : d < w.heap.size + 1 := by omega
 have hwr : IntKind.i64.wrap (((p.pl : Nat) : Int) + ((b.size : Nat) : Int)) = ((p.pl : Nat) : Int) + ((b.size : Nat) : Int) := by rw [IntKind.wrap_i64]; omega
 have hp2 : ({ p with t := put p.t b p.pl } : Pg).pl = p.pl := rfl
 generalize hP2 : ({ p with t := put p.t b p.pl } : Pg) = p2 at *
 generalize hP3 : ({ p with t := put p.t b p.pl, pl := p.pl + b.size } : Pg) = p3 at *
 clear h hP2 hP3
 go_enter func306, ntmps306
 have g0 : (w.alloc (.cells #[.pointer (some ⟨d, 0, none⟩)] 80)).cell? ⟨w.heap.size, 0, none⟩ = some (.pointer (some ⟨d, 0, none⟩)) := by simp
 go_wp2_with fail
 go_region_held3 (fun ww => ww.cell? ⟨w.heap.size, 0, none⟩ = some (.pointer (some ⟨d, 0, none⟩)) ∧ ww.cell? ⟨d, 1, none⟩ = some (.int .i64 p.pl)) (exact qK) ((go_at_call 188; refine Calls.mono (HW.out _ qRd) ?_; rintro r3 w3 ⟨rfl, h3, u3⟩; have hz3 := u3.size; (try simp at hz3); have a1 := h3.dk.c1; rw [hp2] at a1; have az := h3.dk.fz; have al := h3.dk.lt; have a0 := u3.was (b := w.heap.size) (o := 0) (v := .pointer (some ⟨d, 0, none⟩)) qM qs))
 go_wp2
 first | go_end0 | refine bodyPost_ret (results_none rfl _ _ _) rfl ?_
 refine ⟨rfl, ?_, ?_⟩
 ·first | exact HS.out _ h3 | exact (HS.out _ h3).drew | exact HS.out _ h3.drew
 ·repeat exact qU
theorem iPut_long (r d : Nat) (p : Pg) (b : ByteArray) (w : World) (h : RdAt w r d p) (hs : p.t.size ≤ 1000) (hb : b.size ≤ 1000000) (hk : p.pl ≤ p.t.size) (hf : 1000 < (put p.t b p.pl).size) :
  qC 306 #[.agg #[.pointer (some ⟨d, 0, none⟩)], .string b] w (.tuple #[]) := by
 have HW : Hid (∀ ww, RdAt ww r d p → qC 188 #[.pointer (some ⟨d, 0, none⟩), .int .i64 (p.pl : Nat), .string b] ww (.bool false)) := fun ww hh => mWrite_long r d p p.pl b ww hh hs hb hk hf
 have H := h
 have d1 := h.dk.c1
 have hld := h.dk.lt
 clear h
 go_enter func306, ntmps306
 have g0 : (w.alloc (.cells #[.pointer (some ⟨d, 0, none⟩)] 80)).cell? ⟨w.heap.size, 0, none⟩ = some (.pointer (some ⟨d, 0, none⟩)) := by simp
 go_wp2_with fail
 go_region_held3 (fun ww => ww.cell? ⟨w.heap.size, 0, none⟩ = some (.pointer (some ⟨d, 0, none⟩)) ∧ ww.cell? ⟨d, 1, none⟩ = some (.int .i64 p.pl)) (exact qK) ((go_at_call 188; refine Calls.mono (HW.out _ qRd) ?_; rintro r1 w1 ⟨rfl, h1⟩; have hz1 := h1.size; (try simp at hz1); (try have ⟨hl1_0, hk1_0⟩ := qL d w1.heap.size); (try have ⟨hl1_1, hk1_1⟩ := qL w.heap.size w1.heap.size)))
 go_wp2
 first | go_end0 | refine bodyPost_ret (results_none rfl _ _ _) rfl ?_
 refine ⟨rfl, ?_⟩
 repeat exact qB
theorem iWipe_none (r d : Nat) (p : Pg) (w : World) (h : RdAt w r d p) (hp : p.pl = 0) :
  qC 308 #[.agg #[.pointer (some ⟨d, 0, none⟩)]] w (.tuple #[]) := by
 have d1 := h.dk.c1
 rw [hp] at d1
 have hld := h.dk.lt
 have l1 : d < w.heap.size + 1 := by omega
 clear h hp
 go_enter func308, ntmps308
 go_wp2
 first | go_end0 | refine bodyPost_ret (results_none rfl _ _ _) rfl ?_
 refine ⟨rfl, ?_⟩
 repeat exact qB
theorem iWipe_one (r d : Nat) (p : Pg) (k : Nat) (w : World) (h : RdAt w r d p) (hp : p.pl = k + 1) (hs : p.t.size ≤ 1000) (hk : p.pl ≤ p.t.size) :
  Calls Tryz.prog 308 #[.agg #[.pointer (some ⟨d, 0, none⟩)]] w fun e w' => e = .returned (.tuple #[]) ∧ RdAt w' r d { p with t := p.t.extract 0 k ++ p.t.extract (k + 1) p.t.size, pl := k } ∧ Upd [d] w w' := by
 have HW : qH 192 #[.string p.t, .agg #[.int .i64 (((k : Nat) : Int)), .int .i64 (((k : Int) + 1))], .string ⟨#[]⟩] (.string (p.t.extract 0 k ++ p.t.extract (k + 1) p.t.size)) := by
  intro ww
  have := tWith_any p.t ⟨#[]⟩ k ((k : Int) + 1) k (k + 1) ww hs qd rfl qo qo qo
  rw [show p.t.extract 0 k ++ (⟨#[]⟩ : ByteArray) = p.t.extract 0 k from ByteArray.append_empty] at this
  exact this
 have HS : Hid (∀ ww, RdAt ww r d p → RdAt ((ww.setCell ⟨d, 0, none⟩ (.string (p.t.extract 0 k ++ p.t.extract (k + 1) p.t.size))).setCell ⟨d, 1, none⟩ (.int .i64 (k : Nat))) r d { p with t := p.t.extract 0 k ++ p.t.extract (k + 1) p.t.size, pl := k }) := fun ww hh => (hh.set_t _).set_pl k
 have H := h
 have d0 := h.dk.c0
 have d1 := h.dk.c1
 rw [hp] at d1
 have fz := h.dk.fz
 have hld := h.dk.lt
 have l1 : d < w.heap.size + 1 := by omega
 have hn : ¬ ((k : Int) + 1) = 0 := by omega
 generalize hP2 : ({ p with t := p.t.extract 0 k ++ p.t.extract (k + 1) p.t.size, pl := k } : Pg) = p2 at *
 generalize p.t.extract 0 k ++ p.t.extract (k + 1) p.t.size = X at *
 clear h hP2
 have hwr : IntKind.i64.wrap (((k : Nat) : Int) + 1 - 1) = (k : Int) := by rw [IntKind.wrap_i64]; omega
 go_enter func308, ntmps308
 go_wp2_with fail
 have g0 : (w.alloc (.cells #[.pointer (some ⟨d, 0, none⟩)] 80)).cell? ⟨w.heap.size, 0, none⟩ = some (.pointer (some ⟨d, 0, none⟩)) := by simp
 have d1' : (w.alloc (.cells #[.pointer (some ⟨d, 0, none⟩)] 80)).cell? ⟨d, 1, none⟩ = some (.int .i64 ((k : Int) + 1)) := memLater ((Below.refl _ _).alloc (Nat.le_refl _) _) (by rw [d1]; rfl)
 have d0' : (w.alloc (.cells #[.pointer (some ⟨d, 0, none⟩)] 80)).cell? ⟨d, 0, none⟩ = some (.string p.t) := memLater ((Below.refl _ _).alloc (Nat.le_refl _) _) d0
 refine wp_region_held_drew (S := fun ww => ww.cell? ⟨w.heap.size, 0, none⟩ = some (.pointer (some ⟨d, 0, none⟩)) ∧ ww.cell? ⟨d, 1, none⟩ = some (.int .i64 ((k : Int) + 1))) qk ?_ (fun hHeld => ?_)
 ·exact ⟨memLater ((Below.refl _ _).drew) g0, memLater ((Below.refl _ _).drew) d1'⟩
 refine qT 0 ?_
 simp only [Act.put, qP]
 refine qT 1 ?_
 simp only [Act.put, qP]
 refine qT 2 ?_
 simp only [Act.put, qP]
 refine qT 3 ?_
 simp only [Act.put, qP]
 refine qT 4 ?_
 simp only [Act.put, qP]
 refine qT 5 ?_
 simp only [Act.put, qP]
 refine qT 7 ?_
 simp only [Act.put, qP]
 refine qT 8 ?_
 simp only [Act.put, qP]
 refine qT 9 ?_
 simp only [Act.put, qP]
 refine qT 10 ?_
 simp only [Act.put, qP]
 refine qT 11 ?_
 simp only [Act.put, qP]
 refine qT 12 ?_
 simp only [Act.put, qP]
 refine qT 13 ?_
 simp only [Act.put, qP]
 refine qT 14 ?_
 simp only [Act.put, qP]
 refine qT 15 ?_
 simp only [Act.put, qP]
 refine qT 16 ?_
 simp only [Act.put, qP]
 refine qT 17 ?_
 simp only [Act.put, qP]
 refine qT 18 ?_
 simp only [Act.put, qP]
 refine qR 6 fun K hK => ?_
 rw [if_pos (by rfl)]
 go_wp2_with fail
 refine hK.out _ _ ?_ (fun hHeld => ?_)
 ·exact ⟨memLater ((Below.refl _ _).drew) g0, memLater ((Below.refl _ _).drew) d1'⟩
 clear hK K
 try simp only [Act.put, qP]
 refine qR 19 fun K hK => ?_
 rw [if_pos (by rfl)]
 go_wp2_with fail
 refine (HW.out _).mono ?_
 rintro r1 w1 ⟨rfl, h1⟩
 obtain ⟨hc1, hf1, hz1⟩ := qb h1
 (try simp at hz1)
 go_wp2_with fail
 refine hK.out _ _ ?_ (fun hHeld => ?_)
 ·exact ⟨memLater h1 (memLater ((Below.refl _ _).drew) g0), memLater h1 (memLater ((Below.refl _ _).drew) d1')⟩
 clear hK K
 try simp only [Act.put, qP]
 have H1 := ((H.alloc (.cells #[.pointer (some ⟨d, 0, none⟩)] 80)).drew).below h1
 have e0 := H1.dk.c0
 have e1 := H1.dk.c1
 rw [hp] at e1
 have ez := H1.dk.fz
 have el := H1.dk.lt
 have eg := memLater h1 (memLater ((Below.refl _ _).drew) g0)
 refine qT 20 ?_
 simp only [Act.put, qP]
 refine qT 21 ?_
 simp only [Act.put, qP]
 refine qR 22 fun K hK => ?_
 rw [if_pos (by rfl)]
 go_wp2_with fail
 refine hK.out _ _ ?_ (fun hHeld => ?_)
 ·exact ⟨by go_simp, by go_simp⟩
 clear hK K
 try simp only [Act.put, qP]
 refine wpAnyH_done qk ?_ _
 have HS2 := HS.out _ H1
 go_wp2
 first | go_end0 | refine bodyPost_ret (results_none rfl _ _ _) rfl ?_
 refine ⟨rfl, ?_, ?_⟩
 ·first | exact HS2 | trace_state
 ·repeat exact qU
theorem mEnd_did (b r d g n cap : Nat) (ns : List Int) (dg : ByteArray) (w : World) (hb : BdAt w b r d (.slice (some ⟨g, 0, none⟩) n cap) dg) (ho : w.ownsRow 0 5 1 (.slice (some ⟨g, 0, none⟩) n cap) n (ns.map (Value.int .u8))) (hn0 : 0 < n) (hl : ns.length = n) :
  Calls Tryz.prog 48 #[.pointer (some ⟨b, 1, none⟩), .int .i64 2] w fun e w' => e = .returned (.tuple #[]) ∧ BdAt w' b r d (.slice none 0 0) (strOfNums ns) ∧ Upd [b] w w' := by
 have HS := (hb.set_dg (strOfNums ns)).set_tv (.slice none 0 0)
 have hcv : (convert 48 9 (.slice (some ⟨g, 0, none⟩) n cap)).run Tryz.prog w = .ok (.string (strOfNums ns)) w := by
  refine run_convert_bytes_arg w 48 5 underlying48 underlying5 g 0 n cap ns hl ?_ 9 underlying9
  intro i hi
  have hx := ho.cells (g := g) rfl i (.int .u8 (ns.getD i 0)) (by
   rw [List.getElem?_map]
   rw [List.getElem?_eq_getElem qo]
   simp [List.getD_eq_getElem?_getD, List.getElem?_eq_getElem (show i < ns.length by omega)])
  have ha : (⟨g, 0, none⟩ : Addr).add i = ⟨g, 0 + i, none⟩ := by unfold Addr.add; split <;> simp_all
  rw [ha] at hx
  exact hx
 obtain ⟨b0, b1, b2, b3, b4, b5, bz, bl⟩ := hb
 have hn1 : (0 : Int) < ((n : Nat) : Int) := by omega
 generalize strOfNums ns = X at *
 clear ho
 go_enter func48, ntmps48
 go_wp2
 go_end0
 refine ⟨rfl, HS, ?_⟩
 repeat exact qU
theorem nNew_ok (t : ByteArray) (w : World) (h : t.size ≤ 1000) :
  Calls Tryz.prog 24 #[.string t] w fun e w' => ∃ q b r d m : Nat, e = .returned (.tuple #[.pointer (some ⟨q, 0, none⟩), .int .i64 0]) ∧ w'.cell? ⟨q, 0, none⟩ = some (.pointer (some ⟨b, 0, none⟩)) ∧ NbAt w' b r d (newPg t m) (.slice none 0 0) 0 ⟨#[]⟩ ∧ w'.heap[m]? = some (.map #[] 0) ∧
   w.heap.size ≤ q ∧ w.heap.size ≤ m ∧ w.heap.size ≤ b ∧ w.heap.size ≤ r ∧ w.heap.size ≤ d ∧ q ≠ b ∧ q ≠ r ∧ q ≠ d ∧ m ≠ b ∧ m ≠ r ∧ m ≠ d ∧ q < w'.heap.size ∧ Below w.heap.size w w' := by
 have h' : ¬ (1000 : Int) < (t.size : Int) := by omega
 have HN : Hid (∀ ww, Calls Tryz.prog 33 #[.string t] ww fun e w' => ∃ b r d m : Nat, e = .returned (.pointer (some ⟨b, 0, none⟩)) ∧ NbAt w' b r d (newPg t m) (.slice none 0 0) 0 ⟨#[]⟩ ∧ w'.heap[m]? = some (.map #[] 0) ∧
   ww.heap.size ≤ m ∧ ww.heap.size ≤ b ∧ ww.heap.size ≤ r ∧ ww.heap.size ≤ d ∧ m ≠ b ∧ m ≠ r ∧ m ≠ d ∧ Below ww.heap.size ww w') := fun ww => bNew t ww
 go_enter func24, ntmps24
 go_wp2_with fail
 refine Calls.mono (HN.out _) ?_
 rintro e w1 ⟨b, r, d, m, rfl, hN, hm, m1, m2, m3, m4, m5, m6, m7, h1⟩
 have HB : Hid (NbAt w1 b r d (newPg t m) (.slice none 0 0) 0 ⟨#[]⟩) := hN
 have HM : Hid (w1.heap[m]? = some (.map #[] 0)) := hm
 have bl := hN.bd.lt
 have rl := hN.rd.bg.lt
 have dl := hN.rd.dk.lt
 have ml : m < w1.heap.size := (Array.getElem?_eq_some_iff.1 hm).1
 have hz1 := h1.size
 clear hN hm
 go_wp2
 go_ret2
 refine ⟨w1.heap.size, b, r, d, m, rfl, by simp, ?_, ?_, by omega, m1, m2, m3, m4, by omega, by omega, by omega, m5, m6, m7, by simp, ?_⟩
 ·exact ⟨HB.out.bd.alloc _, HB.out.rd.alloc _, ⟨_, World.ownsRow_nil _ _ _ _⟩, HB.out.br, HB.out.bd', HB.out.tb, HB.out.tr, HB.out.td⟩
 ·rw [Below.heap_alloc _ _ _ ml]; exact HM.out
 ·repeat exact qB
theorem nType (q b : Nat) (s : ByteArray) (w : World) (N : Int) (Q : World → Prop) (hq : w.cell? ⟨q, 0, none⟩ = some (.pointer (some ⟨b, 0, none⟩)))
  (HT : Hid (∀ ww, ww = w → Calls Tryz.prog 30 #[.pointer (some ⟨b, 0, none⟩), .string s] ww fun e w' => e = .returned (.int .i64 N) ∧ Q w')) :
  Calls Tryz.prog 17 #[.pointer (some ⟨q, 0, none⟩), .string s] w fun e w' => e = .returned (.int .i64 N) ∧ Q w' := by
 go_enter func17, ntmps17
 go_wp2_with fail
 refine Calls.mono (HT.out _ rfl) ?_
 rintro e w1 ⟨rfl, h1⟩
 have HQ : Hid (Q w1) := h1
 clear h1
 go_wp2
 go_ret
 exact ⟨rfl, HQ.out⟩
theorem nState (q b r d : Nat) (tv : Value) (dg : ByteArray) (p : Pg) (w : World) (hq : w.cell? ⟨q, 0, none⟩ = some (.pointer (some ⟨b, 0, none⟩))) (hb : BdAt w b r d tv dg) (h : RdAt w r d p) :
  qC 18 #[.pointer (some ⟨q, 0, none⟩)] w (.agg #[.string p.t, .int .i64 (p.pl : Nat), .int .i64 (p.anchor : Nat), .int .i64 p.mode, .bool (waits p)]) := by
 have HS : Hid (∀ ww, BdAt ww b r d tv dg → RdAt ww r d p → qC 31 #[.pointer (some ⟨b, 0, none⟩)] ww (.agg #[.string p.t, .int .i64 (p.pl : Nat), .int .i64 (p.anchor : Nat), .int .i64 p.mode, .bool (waits p)])) := fun ww h1 h2 => bState b r d tv dg p ww h1 h2
 generalize waits p = N at *
 have ql : q < w.heap.size := World.block_lt_of_cell? w ⟨q, 0, none⟩ hq
 have l1 : q < w.heap.size + 1 := by omega
 go_enter func18, ntmps18
 go_wp2_with fail
 refine Calls.mono (HS.out _ (hb.alloc _) (h.alloc _)) ?_
 rintro e w1 ⟨rfl, h1⟩
 obtain ⟨hc1, hf1, hz1⟩ := qb h1
 simp at hz1
 have e0 := fun o => hc1 w.heap.size o qi
 have e1 := fun o => hf1 w.heap.size o qi
 clear hc1 hf1
 go_wp2
 exact qV (.agg #[.string p.t, .int .i64 (p.pl : Nat), .int .i64 (p.anchor : Nat), .int .i64 p.mode, .bool N]) (by simp [results, results18, go_sem, e0]) rfl
def lem (s : ByteArray) (m : Nat) : Bool := att s m == fin s (att s m)
def alD (s : ByteArray) (E : Bool) : Nat → Nat → Nat
 | 0, m => m
 | n + 1, m => if lem s (m + 1) = E then alD s E n (m + 1) else m
def alU (s : ByteArray) (E : Bool) : Nat → Nat
 | 0 => 0
 | m + 1 => if lem s m = E then alU s E m else m + 1
theorem alD_le (s : ByteArray) (E : Bool) : ∀ n m, m ≤ alD s E n m ∧ alD s E n m ≤ m + n := by
 intro n
 induction n with
 | zero => intro m; exact ⟨Nat.le_refl _, Nat.le_refl _⟩
 | succ n ih =>
  intro m
  simp only [alD]
  split
  ·have := ih (m + 1); omega
  ·omega
theorem alU_le (s : ByteArray) (E : Bool) : ∀ m, alU s E m ≤ m := by
 intro m
 induction m with
 | zero => exact Nat.le_refl _
 | succ m ih =>
  simp only [alU]
  split <;> omega
theorem tBesideD (s : ByteArray) (a : Int) (m : Nat) (w : World) (hs : s.size ≤ 1000) (h : m + 1 < lns s) :
  qC 223 #[.string s, .agg #[.int .i64 (a), .int .i64 (fin s (att s m))], .int .i64 1] w (.tuple #[.agg #[.int .i64 (att s (m + 1)), .int .i64 (fin s (att s (m + 1)))], .bool true]) := by
 have h1 := fin_lt_of h
 have h2 := line_down h
 have HL : qH 195 #[.string s, .int .i64 (((fin s (att s m) : Nat) : Int) + 1)] (.agg #[.int .i64 (att s (m + 1)), .int .i64 (fin s (att s (m + 1)))]) := by
  intro ww
  have := tLine_any s (((fin s (att s m) : Nat) : Int) + 1) (fin s (att s m) + 1) ww hs qo qo
  rw [h2.1, h2.2] at this
  exact this
 clear h2
 generalize att s (m + 1) = A at *
 generalize fin s A = B at *
 generalize fin s (att s m) = F at *
 go_enter func223, ntmps223
 go_wp2_with fail
 refine (HL.out _).mono ?_
 rintro e w1 ⟨rfl, h1⟩
 obtain ⟨hc1, hf1, hz1⟩ := qb h1
 try simp at hz1
 go_wp2
 exact qV (.tuple #[.agg #[.int .i64 (A), .int .i64 (B)], .bool true]) (by simp [results, results223, go_sem, hc1]) rfl
theorem fin_lastN {s : ByteArray} {m : Nat} (h : m < lns s) (h2 : ¬ m + 1 < lns s) : fin s (att s m) = s.size := fin_last qo
theorem tBes_dn (s : ByteArray) (a : Int) (y : Nat) (hs : s.size ≤ 1000) (hy : y < lns s) : ∃ (A B : Int), (y + 1 < lns s → A = att s (y + 1) ∧ B = fin s (att s (y + 1))) ∧ ∀ ww, qC 223 #[.string s, .agg #[.int .i64 (a), .int .i64 (fin s (att s y))], .int .i64 1] ww (.tuple #[.agg #[.int .i64 (A), .int .i64 (B)], .bool (decide (y + 1 < lns s))]) := by
 by_cases h : y + 1 < lns s
 ·refine ⟨_, _, fun _ => ⟨rfl, rfl⟩, fun ww => ?_⟩
  rw [decide_eq_true h]
  exact tBesideD s a y ww hs h
 ·refine ⟨0, 0, fun h2 => absurd h2 h, fun ww => ?_⟩
  rw [decide_eq_false h]
  exact tBeside_none s a _ 1 ww hs (Or.inl rfl) (fun _ => by rw [fin_lastN hy h]) (fun e => by cases e)
theorem tBes_up (s : ByteArray) (b : Int) (x : Nat) (hs : s.size ≤ 1000) (hx : x < lns s) : ∃ (A B : Int), (0 < x → A = att s (x - 1) ∧ B = fin s (att s (x - 1))) ∧ ∀ ww, qC 223 #[.string s, .agg #[.int .i64 (att s x), .int .i64 (b)], .int .i64 (-1)] ww (.tuple #[.agg #[.int .i64 (A), .int .i64 (B)], .bool (decide (0 < x))]) := by
 by_cases h : 0 < x
 ·refine ⟨_, _, fun _ => ⟨rfl, rfl⟩, fun ww => ?_⟩
  rw [decide_eq_true h]
  exact tBeside_up s _ b (-1) x ww hs rfl hx rfl h
 ·refine ⟨0, 0, fun h2 => absurd h2 h, fun ww => ?_⟩
  rw [decide_eq_false h]
  have hx0 : x = 0 := by omega
  subst hx0
  exact tBeside_none s _ b (-1) ww hs (Or.inr rfl) (fun e => by cases e) (fun _ => rfl)
theorem tEmp_line (s : ByteArray) (m : Nat) (w : World) :
  qC 185 #[.agg #[.int .i64 (att s m), .int .i64 (fin s (att s m))]] w (.bool (lem s m)) := by
 have := tIsEmpty_any (att s m) (fin s (att s m)) w
 rw [show (((att s m : Nat) : Int) == ((fin s (att s m) : Nat) : Int)) = lem s m by
  unfold lem
  by_cases e : att s m = fin s (att s m)
  ·rw [beq_iff_eq.2 e, beq_iff_eq.2 qo]
  ·rw [beq_eq_false_iff_ne.2 e, beq_eq_false_iff_ne.2 qo]] at this
 exact this
theorem att_monoO (s : ByteArray) (m : Nat) : ∀ n, att s m ≤ att s (m + n) := by
 intro n
 induction n with
 | zero => exact Nat.le_refl _
 | succ n ih =>
  have h : att s (m + (n + 1)) = fin s (att s (m + n)) + 1 := rfl
  have := fin_ge s (att s (m + n))
  omega
theorem qt44 {P : Prop} (h : P := by
  exact ⟨memLater h6 (memLater h5 (memLater ((Below.refl _ _).drew) n0)), memLater h6 (memLater h5 (memLater ((Below.refl _ _).drew) n1)), memLater h6 (memLater h5 (memLater ((Below.refl _ _).drew) l0)), memLater h6 (memLater h5 (memLater ((Below.refl _ _).drew) l1))⟩
 ) : P := h
theorem qt49 {P : Prop} (h : P := by
  exact ⟨memLater h5 (memLater ((Below.refl _ _).drew) n0), memLater h5 (memLater ((Below.refl _ _).drew) n1), memLater h5 (memLater ((Below.refl _ _).drew) l0), memLater h5 (memLater ((Below.refl _ _).drew) l1)⟩
 ) : P := h
theorem qt60 {P : Prop} (h : P := by
  exact ⟨memLater ((Below.refl _ _).drew) n0, memLater ((Below.refl _ _).drew) n1, memLater ((Below.refl _ _).drew) l0, memLater ((Below.refl _ _).drew) l1⟩
 ) : P := h
theorem oAlike (s : ByteArray) (m : Nat) (hs : s.size ≤ 1000) (hm : m < lns s) :
  ∃ x y : Nat, x ≤ m ∧ m ≤ y ∧ y < lns s ∧ ∀ ww, qC 262 #[.string s, .agg #[.int .i64 (att s m), .int .i64 (fin s (att s m))]] ww (.agg #[.int .i64 (att s x), .int .i64 (fin s (att s y))]) := by
 have hD := alD_le s (lem s m) (lns s - 1 - m) m
 have hU := alU_le s (lem s m) m
 obtain ⟨Y, hY⟩ : ∃ Y, alD s (lem s m) (lns s - 1 - m) m = Y := ⟨_, rfl⟩
 obtain ⟨X0, hX0⟩ : ∃ X0, alU s (lem s m) m = X0 := ⟨_, rfl⟩
 rw [hY] at hD
 rw [hX0] at hU
 have HY : Hid (alD s (lem s m) (lns s - 1 - m) m = Y) := hY
 have HX : Hid (alU s (lem s m) m = X0) := hX0
 clear hY hX0
 refine ⟨X0, Y, hU, hD.1, by omega, fun w => ?_⟩
 have HEm : qH 185 #[.agg #[.int .i64 (att s m), .int .i64 (fin s (att s m))]] (.bool (lem s m)) := fun ww => tEmp_line s m ww
 have hix0 : ∀ ww : World, (Instr.index 127 (.agg #[.int .i64 1, .int .i64 (-1)]) (.int .i64 0)).run Tryz.prog ww = .ok (.int .i64 1) ww := fun _ => by kernel_rfl
 have hix1 : ∀ ww : World, (Instr.index 127 (.agg #[.int .i64 1, .int .i64 (-1)]) (.int .i64 1)).run Tryz.prog ww = .ok (.int .i64 (-1)) ww := fun _ => by kernel_rfl
 go_enter func262, ntmps262
 go_wp2_with fail
 go_loopw [12] (fun iv wr => ∃ (k x y : Nat), iv = .int .i64 k ∧ ((k = 0 ∧ x = m ∧ y = m) ∨ (k = 1 ∧ x = m ∧ y = Y) ∨ (k = 2 ∧ x = X0 ∧ y = Y)) ∧ Two wr w.heap.size (att s m) (fin s (att s m)) ∧ Two wr (w.heap.size + 1) 0 0 ∧ Two wr (w.heap.size + 1 + 1) (att s x) (fin s (att s y)) ∧ Below w.heap.size w wr) (fun iv _ => 2 - (intOf iv).toNat)
 case atStart =>
  refine ⟨0, m, m, rfl, Or.inl ⟨rfl, rfl, rfl⟩, Two.alloc (Two.alloc (Two.new _ _ _ _) _) _, Two.alloc (by have := Two.new (w.alloc (.cells #[.int .i64 (att s m), .int .i64 (fin s (att s m))] 128)) 0 0 128; simpa using this) _, by have := Two.new ((w.alloc (.cells #[.int .i64 (att s m), .int .i64 (fin s (att s m))] 128)).alloc (.cells #[.int .i64 0, .int .i64 0] 128)) (att s m) (fin s (att s m)) 128; simpa using this, ?_⟩
  repeat exact qB
 case round =>
  obtain ⟨k, x, y, rfl, hkxy, L, Q, T, hB⟩ := hrel
  have zB := hB.size
  have l0 := L.c0; have l1 := L.c1; have ll := L.lt
  have ⟨q0, q1, qz, ql⟩ := Q
  have ⟨t0, t1, tz, tl⟩ := T
  rcases hkxy with ⟨ek, ex, ey⟩ | ⟨ek, ex, ey⟩ | ⟨ek, ex, ey⟩
  ·have ex := ex.symm
   have ey := ey.symm
   subst ek ex ey
   obtain ⟨A0, B0, hAB0, HB0⟩ := tBes_dn s (att s m) (m) hs hm
   have HB0 : qH 223 #[.string s, .agg #[.int .i64 (att s m), .int .i64 (fin s (att s (m)))], .int .i64 1] (.tuple #[.agg #[.int .i64 (A0), .int .i64 (B0)], .bool (decide (m + 1 < lns s))]) := HB0
   go_wp2_with fail
   refine (HB0.out _).mono ?_
   rintro r4 w4 ⟨rfl, h4⟩
   obtain ⟨hc4, hf4, hz4⟩ := qb h4
   (try simp at hz4)
   have L4 : Two w4 (w.heap.size) (att s m) (fin s (att s m)) := qTw
   have ⟨L4_0, L4_1, L4_z, L4_l⟩ := L4
   have Q4 : Two w4 (w.heap.size + 1) (0) (0) := qTw
   have ⟨Q4_0, Q4_1, Q4_z, Q4_l⟩ := Q4
   have T4 : Two w4 (w.heap.size + 1 + 1) (att s m) (fin s (att s (m))) := qTw
   have ⟨T4_0, T4_1, T4_z, T4_l⟩ := T4
   clear hc4 hf4
   have U4 : Below w.heap.size w w4 := by
    repeat exact qB
   go_wp2_with fail
   have N5 : Two (w4.alloc (.cells #[.int .i64 A0, .int .i64 B0] 128)) w4.heap.size A0 B0 := Two.new _ _ _ _
   have L5 := L4.alloc (.cells #[.int .i64 A0, .int .i64 B0] 128)
   have Q5 := Q4.alloc (.cells #[.int .i64 A0, .int .i64 B0] 128)
   have T5 := T4.alloc (.cells #[.int .i64 A0, .int .i64 B0] 128)
   have z4 := U4.size
   have U5 : Below w.heap.size w (w4.alloc (.cells #[.int .i64 A0, .int .i64 B0] 128)) := by
    repeat exact qB
   have ln4 : w.heap.size + 1 + 1 < w4.heap.size := T4.lt
   clear L4 Q4 T4 L4_0 L4_1 L4_z L4_l Q4_0 Q4_1 Q4_z Q4_l T4_0 T4_1 T4_z T4_l h4 U4 HB0 L Q T l0 l1 ll q0 q1 qz ql t0 t1 tz tl hB zB
   generalize (w4.alloc (.cells #[.int .i64 A0, .int .i64 B0] 128)) = W5 at *
   generalize w4.heap.size = nb at *
   go_loopg [9] (lns s - 1 - (m)) (fun g iv wx => ∃ (y : Nat) (A B : Int), m ≤ y ∧ y < lns s ∧ g = lns s - 1 - (y) ∧ (y + 1 < lns s → A = att s (y + 1) ∧ B = fin s (att s (y + 1))) ∧ iv = .bool (decide (y + 1 < lns s)) ∧ Hid (alD s (lem s m) (lns s - 1 - (y)) (y) = Y) ∧ Two wx w.heap.size (att s m) (fin s (att s m)) ∧ Two wx (w.heap.size + 1) 0 0 ∧ Two wx (w.heap.size + 1 + 1) (att s m) (fin s (att s (y))) ∧ Two wx nb A B ∧ Below w.heap.size w wx)
   case atStart => exact ⟨m, A0, B0, Nat.le_refl _, hm, rfl, hAB0, rfl, HY, L5, Q5, T5, N5, U5⟩
   case round =>
    clear N5 L5 Q5 T5 U5 HY hAB0
    obtain ⟨y, A, B, hy1, hy2, hg, hAB, rfl, HF, L, Q, T, N, hB⟩ := hrel
    have zB := hB.size
    have l0 := L.c0; have l1 := L.c1; have ll := L.lt
    have ⟨q0, q1, qz, ql⟩ := Q
    have ⟨t0, t1, tz, tl⟩ := T
    have ⟨n0, n1, nz, nl⟩ := N
    by_cases hc : y + 1 < lns s
    ·rw [decide_eq_true hc]
     obtain ⟨eA, eB⟩ := hAB hc
     subst eA eB
     have hEn := fun ww => tEmp_line s (y + 1) ww
     by_cases hE : lem s (y + 1) = lem s m
     ·rw [hE] at hEn
      have HEn : qH 185 #[.agg #[.int .i64 (att s (y + 1)), .int .i64 (fin s (att s (y + 1)))]] (.bool (lem s m)) := hEn
      have HF2 : Hid (alD s (lem s m) (lns s - 1 - (y + 1)) (y + 1) = Y) := by
       have := HF.out
       rw [show lns s - 1 - y = (lns s - 1 - (y + 1)) + 1 by omega] at this
       simp only [alD] at this
       rw [if_pos hE] at this
       exact this
      have m1 := att_monoO s (m) (y + 1 - m)
      rw [show m + (y + 1 - m) = y + 1 by omega] at m1
      have m2 : fin s (att s y) ≤ fin s (att s (y + 1)) := by
       have e : att s (y + 1) = fin s (att s y) + 1 := rfl
       have := fin_ge s (att s (y + 1))
       omega
      have HJ : qH 196 #[.agg #[.int .i64 (att s m), .int .i64 (fin s (att s (y)))], .agg #[.int .i64 (att s (y + 1)), .int .i64 (fin s (att s (y + 1)))]] (.agg #[.int .i64 (att s m), .int .i64 (fin s (att s (y + 1)))]) := by
       intro ww
       have := tJoin_nat (att s m) (fin s (att s (y))) (att s (y + 1)) (fin s (att s (y + 1))) ww
       rw [show min (att s m) (att s (y + 1)) = att s m by omega, show max (fin s (att s (y))) (fin s (att s (y + 1))) = fin s (att s (y + 1)) by omega] at this
       exact this
      obtain ⟨A2, B2, hAB2, HB2⟩ := tBes_dn s (att s m) (y + 1) hs hc
      have HB2 : qH 223 #[.string s, .agg #[.int .i64 (att s m), .int .i64 (fin s (att s (y + 1)))], .int .i64 1] (.tuple #[.agg #[.int .i64 (A2), .int .i64 (B2)], .bool (decide ((y + 1) + 1 < lns s))]) := HB2
      clear m1 m2 hE hAB HF
      go_wp2_with fail
      refine wp_region_held_drew (S := fun ww => ww.cell? ⟨nb, 0, none⟩ = some (.int .i64 (att s (y + 1))) ∧ ww.cell? ⟨nb, 1, none⟩ = some (.int .i64 (fin s (att s (y + 1)))) ∧ ww.cell? ⟨w.heap.size, 0, none⟩ = some (.int .i64 (att s m)) ∧ ww.cell? ⟨w.heap.size, 1, none⟩ = some (.int .i64 (fin s (att s m)))) qk ?_ (fun hHeld => ?_)
      ·exact qt60
      refine qT 0 ?_
      simp only [Act.put, qP]
      refine qT 1 ?_
      simp only [Act.put, qP]
      refine qT 2 ?_
      simp only [Act.put, qP]
      refine qT 4 ?_
      simp only [Act.put, qP]
      refine qR 3 fun K hK => ?_
      rw [if_pos (by rfl)]
      go_wp2_with fail
      refine (HEn.out _).mono ?_
      rintro r5 w5 ⟨rfl, h5⟩
      obtain ⟨hc5, hf5, hz5⟩ := qb h5
      (try simp at hz5)
      go_wp2_with fail
      refine hK.out _ _ ?_ (fun hHeld => ?_)
      ·exact qt49
      clear hK K
      try simp only [Act.put, qP]
      clear hc5 hf5
      refine qR 5 fun K hK => ?_
      rw [if_pos (by rfl)]
      go_wp2_with fail
      refine (HEm.out _).mono ?_
      rintro r6 w6 ⟨rfl, h6⟩
      obtain ⟨hc6, hf6, hz6⟩ := qb h6
      (try simp at hz6)
      go_wp2_with fail
      refine hK.out _ _ ?_ (fun hHeld => ?_)
      ·exact qt44
      clear hK K
      try simp only [Act.put, qP]
      clear hc6 hf6
      refine qT 6 ?_
      simp only [Act.put, qP]
      refine qT 7 ?_
      simp only [Act.put, qP]
      refine wpAnyH_done qk ?_ _
      have hB6 : Below w.heap.size w w6 := by
       repeat exact qB
      have z6 := hB6.size
      have L6 := ((L.drew).below h5).below h6
      have Q6 := ((Q.drew).below h5).below h6
      have T6 := ((T.drew).below h5).below h6
      have N6 := ((N.drew).below h5).below h6
      clear L Q T N l0 l1 ll q0 q1 qz ql t0 t1 tz tl n0 n1 nz nl hB zB h5 h6
      have ⟨q0, q1, qz, ql⟩ := Q6
      have ⟨t0, t1, tz, tl⟩ := T6
      have ⟨n0, n1, nz, nl⟩ := N6
      go_wp2_with fail
      refine (HJ.out _).mono ?_
      rintro e w7 ⟨rfl, h7⟩
      obtain ⟨hc7, hf7, hz7⟩ := qb h7
      try simp at hz7
      have L7 := L6.below h7; have Q7 := Q6.below h7; have T7 := T6.below h7; have N7 := N6.below h7
      have z7 := h7.size
      clear hc7 hf7 L6 Q6 T6 N6 q0 q1 qz ql t0 t1 tz tl n0 n1 nz nl
      have ⟨t0, t1, tz, tl⟩ := T7
      have ⟨n0, n1, nz, nl⟩ := N7
      have hB7 : Below w.heap.size w w7 := by
       repeat exact qB
      have T8 : Two ((w7.setCell ⟨w.heap.size + 1 + 1, 0, none⟩ (.int .i64 (att s m))).setCell ⟨w.heap.size + 1 + 1, 1, none⟩ (.int .i64 (fin s (att s (y + 1))))) (w.heap.size + 1 + 1) (att s m) (fin s (att s (y + 1))) := Two.set1 (Two.set0 T7 _) _
      have L8 : Two ((w7.setCell ⟨w.heap.size + 1 + 1, 0, none⟩ (.int .i64 (att s m))).setCell ⟨w.heap.size + 1 + 1, 1, none⟩ (.int .i64 (fin s (att s (y + 1))))) w.heap.size (att s m) (fin s (att s m)) := Two.other (Two.other L7 qf _) qf _
      have Q8 : Two ((w7.setCell ⟨w.heap.size + 1 + 1, 0, none⟩ (.int .i64 (att s m))).setCell ⟨w.heap.size + 1 + 1, 1, none⟩ (.int .i64 (fin s (att s (y + 1))))) (w.heap.size + 1) 0 0 := Two.other (Two.other Q7 qf _) qf _
      have N8 : Two ((w7.setCell ⟨w.heap.size + 1 + 1, 0, none⟩ (.int .i64 (att s m))).setCell ⟨w.heap.size + 1 + 1, 1, none⟩ (.int .i64 (fin s (att s (y + 1))))) nb (att s (y + 1)) (fin s (att s (y + 1))) := Two.other (Two.other N7 qf _) qf _
      have hB8 : Below w.heap.size w ((w7.setCell ⟨w.heap.size + 1 + 1, 0, none⟩ (.int .i64 (att s m))).setCell ⟨w.heap.size + 1 + 1, 1, none⟩ (.int .i64 (fin s (att s (y + 1))))) := Below.setCell (Below.setCell hB7 qf _) qf _
      have x0 := T8.c0; have x1 := T8.c1
      go_wp2_with fail
      refine (HB2.out _).mono ?_
      rintro e w9 ⟨rfl, h9⟩
      obtain ⟨hc9, hf9, hz9⟩ := qb h9
      try simp at hz9
      have L9 := L8.below h9; have Q9 := Q8.below h9; have T9 := T8.below h9; have N9 := N8.below h9
      have hB9 : Below w.heap.size w w9 := hB8.trans (h9.mono hB8.size)
      have ⟨m0, m1, mz, ml⟩ := N9
      clear hc9 hf9
      go_wp2
      go_roundg (lns s - 1 - (y + 1))
      case measure => omega
      case rel => exact ⟨y + 1, A2, B2, by omega, hc, rfl, hAB2, rfl, HF2, Two.other (Two.other L9 qf _) qf _, Two.other (Two.other Q9 qf _) qf _, Two.other (Two.other T9 qf _) qf _, Two.set1 (Two.set0 N9 _) _, Below.setCell (Below.setCell hB9 qf _) qf _⟩
     ·have HEn : qH 185 #[.agg #[.int .i64 (att s (y + 1)), .int .i64 (fin s (att s (y + 1)))]] (.bool (lem s (y + 1))) := hEn
      have eY : Hid (y = Y) := by
       have := HF.out
       rw [show lns s - 1 - y = (lns s - 1 - (y + 1)) + 1 by omega] at this
       simp only [alD] at this
       rw [if_neg hE] at this
       exact this
      have hE2 : (lem s (y + 1) == lem s m) = false := by simp [hE]
      generalize lem s (y + 1) = e1 at *
      have HEm2 := HEm
      generalize lem s m = e2 at *
      clear HF
      go_wp2_with fail
      refine wp_region_held_drew (S := fun ww => ww.cell? ⟨nb, 0, none⟩ = some (.int .i64 (att s (y + 1))) ∧ ww.cell? ⟨nb, 1, none⟩ = some (.int .i64 (fin s (att s (y + 1)))) ∧ ww.cell? ⟨w.heap.size, 0, none⟩ = some (.int .i64 (att s m)) ∧ ww.cell? ⟨w.heap.size, 1, none⟩ = some (.int .i64 (fin s (att s m)))) qk ?_ (fun hHeld => ?_)
      ·exact qt60
      refine qT 0 ?_
      simp only [Act.put, qP]
      refine qT 1 ?_
      simp only [Act.put, qP]
      refine qT 2 ?_
      simp only [Act.put, qP]
      refine qT 4 ?_
      simp only [Act.put, qP]
      refine qR 3 fun K hK => ?_
      rw [if_pos (by rfl)]
      go_wp2_with fail
      refine (HEn.out _).mono ?_
      rintro r5 w5 ⟨rfl, h5⟩
      obtain ⟨hc5, hf5, hz5⟩ := qb h5
      (try simp at hz5)
      go_wp2_with fail
      refine hK.out _ _ ?_ (fun hHeld => ?_)
      ·exact qt49
      clear hK K
      try simp only [Act.put, qP]
      clear hc5 hf5
      refine qR 5 fun K hK => ?_
      rw [if_pos (by rfl)]
      go_wp2_with fail
      refine (HEm.out _).mono ?_
      rintro r6 w6 ⟨rfl, h6⟩
      obtain ⟨hc6, hf6, hz6⟩ := qb h6
      (try simp at hz6)
      go_wp2_with fail
      refine hK.out _ _ ?_ (fun hHeld => ?_)
      ·exact qt44
      clear hK K
      try simp only [Act.put, qP]
      clear hc6 hf6
      refine qT 6 ?_
      simp only [Act.put, qP]
      refine qT 7 ?_
      simp only [Act.put, qP]
      refine wpAnyH_done qk ?_ _
      have hB6 : Below w.heap.size w w6 := by
       repeat exact qB
      have z6 := hB6.size
      have L6 := ((L.drew).below h5).below h6
      have Q6 := ((Q.drew).below h5).below h6
      have T6 := ((T.drew).below h5).below h6
      have N6 := ((N.drew).below h5).below h6
      clear L Q T N l0 l1 ll q0 q1 qz ql t0 t1 tz tl n0 n1 nz nl hB zB h5 h6
      have ⟨q0, q1, qz, ql⟩ := Q6
      have ⟨t0, t1, tz, tl⟩ := T6
      have ⟨n0, n1, nz, nl⟩ := N6
      have eY := eY.out
      subst eY
      go_wp2
      go_round
      case rel => exact ⟨1, m, y, by go_num, Or.inr (Or.inl ⟨rfl, rfl, rfl⟩), L6, Q6, T6, hB6⟩
      case measure => simp [intOf] <;> omega
    ·rw [decide_eq_false hc]
     have eY : y = Y := by
      have := HF.out
      rw [show lns s - 1 - y = 0 by omega] at this
      exact this
     subst eY
     go_wp2_with fail
     refine wp_region_held_drew (S := fun ww => ww.cell? ⟨w.heap.size, 0, none⟩ = some (.int .i64 (att s m))) qk ?_ (fun hHeld => ?_)
     ·exact memLater ((Below.refl _ _).drew) l0
     refine qT 0 ?_
     simp only [Act.put, qP]
     refine qT 1 ?_
     simp only [Act.put, qP]
     refine qS 2 ?_
     simp only [Act.put, qP]
     refine qS 3 ?_
     simp only [Act.put, qP]
     refine qS 4 ?_
     simp only [Act.put, qP]
     refine qS 5 ?_
     simp only [Act.put, qP]
     refine qS 6 ?_
     simp only [Act.put, qP]
     refine qT 7 ?_
     simp only [Act.put, qP]
     refine wpAnyH_done qk ?_ _
     go_wp2
     go_round
     case rel => exact ⟨1, m, y, by go_num, Or.inr (Or.inl ⟨rfl, rfl, rfl⟩), L.drew, Q.drew, T.drew, hB.drew⟩
     case measure => simp [intOf] <;> omega
  ·have ex := ex.symm
   have ey := ey.symm
   subst ek ex ey
   obtain ⟨A0, B0, hAB0, HB0⟩ := tBes_up s (fin s (att s Y)) (m) hs hm
   have HB0 : qH 223 #[.string s, .agg #[.int .i64 (att s (m)), .int .i64 (fin s (att s Y))], .int .i64 (-1)] (.tuple #[.agg #[.int .i64 (A0), .int .i64 (B0)], .bool (decide (0 < m))]) := HB0
   go_wp2_with fail
   refine (HB0.out _).mono ?_
   rintro r4 w4 ⟨rfl, h4⟩
   obtain ⟨hc4, hf4, hz4⟩ := qb h4
   (try simp at hz4)
   have L4 : Two w4 (w.heap.size) (att s m) (fin s (att s m)) := qTw
   have ⟨L4_0, L4_1, L4_z, L4_l⟩ := L4
   have Q4 : Two w4 (w.heap.size + 1) (0) (0) := qTw
   have ⟨Q4_0, Q4_1, Q4_z, Q4_l⟩ := Q4
   have T4 : Two w4 (w.heap.size + 1 + 1) (att s (m)) (fin s (att s Y)) := qTw
   have ⟨T4_0, T4_1, T4_z, T4_l⟩ := T4
   clear hc4 hf4
   have U4 : Below w.heap.size w w4 := by
    repeat exact qB
   go_wp2_with fail
   have N5 : Two (w4.alloc (.cells #[.int .i64 A0, .int .i64 B0] 128)) w4.heap.size A0 B0 := Two.new _ _ _ _
   have L5 := L4.alloc (.cells #[.int .i64 A0, .int .i64 B0] 128)
   have Q5 := Q4.alloc (.cells #[.int .i64 A0, .int .i64 B0] 128)
   have T5 := T4.alloc (.cells #[.int .i64 A0, .int .i64 B0] 128)
   have z4 := U4.size
   have U5 : Below w.heap.size w (w4.alloc (.cells #[.int .i64 A0, .int .i64 B0] 128)) := by
    repeat exact qB
   have ln4 : w.heap.size + 1 + 1 < w4.heap.size := T4.lt
   clear L4 Q4 T4 L4_0 L4_1 L4_z L4_l Q4_0 Q4_1 Q4_z Q4_l T4_0 T4_1 T4_z T4_l h4 U4 HB0 L Q T l0 l1 ll q0 q1 qz ql t0 t1 tz tl hB zB
   generalize (w4.alloc (.cells #[.int .i64 A0, .int .i64 B0] 128)) = W5 at *
   generalize w4.heap.size = nb at *
   go_loopg [9] (m) (fun g iv wx => ∃ (x : Nat) (A B : Int), x ≤ m ∧ g = x ∧ (0 < x → A = att s (x - 1) ∧ B = fin s (att s (x - 1))) ∧ iv = .bool (decide (0 < x)) ∧ Hid (alU s (lem s m) (x) = X0) ∧ Two wx w.heap.size (att s m) (fin s (att s m)) ∧ Two wx (w.heap.size + 1) 0 0 ∧ Two wx (w.heap.size + 1 + 1) (att s (x)) (fin s (att s Y)) ∧ Two wx nb A B ∧ Below w.heap.size w wx)
   case atStart => exact ⟨m, A0, B0, Nat.le_refl _, rfl, hAB0, rfl, HX, L5, Q5, T5, N5, U5⟩
   case round =>
    clear N5 L5 Q5 T5 U5 HX hAB0
    obtain ⟨x, A, B, hy1, hg, hAB, rfl, HF, L, Q, T, N, hB⟩ := hrel
    have zB := hB.size
    have l0 := L.c0; have l1 := L.c1; have ll := L.lt
    have ⟨q0, q1, qz, ql⟩ := Q
    have ⟨t0, t1, tz, tl⟩ := T
    have ⟨n0, n1, nz, nl⟩ := N
    by_cases hc : 0 < x
    ·rw [decide_eq_true hc]
     obtain ⟨eA, eB⟩ := hAB hc
     subst eA eB
     have hEn := fun ww => tEmp_line s (x - 1) ww
     by_cases hE : lem s (x - 1) = lem s m
     ·rw [hE] at hEn
      have HEn : qH 185 #[.agg #[.int .i64 (att s (x - 1)), .int .i64 (fin s (att s (x - 1)))]] (.bool (lem s m)) := hEn
      have HF2 : Hid (alU s (lem s m) (x - 1) = X0) := by
       have := HF.out
       rw [show x = (x - 1) + 1 by omega] at this
       simp only [alU] at this
       rw [if_pos hE] at this
       exact this
      have m1 := att_monoO s (x - 1) (1)
      rw [show x - 1 + 1 = x by omega] at m1
      have m2 : fin s (att s (x - 1)) ≤ fin s (att s Y) := by
       have e : att s (x - 1 + 1) = fin s (att s (x - 1)) + 1 := rfl
       have k1 := att_monoO s (x - 1 + 1) (Y - (x - 1 + 1))
       rw [show x - 1 + 1 + (Y - (x - 1 + 1)) = Y by omega] at k1
       have := fin_ge s (att s Y)
       omega
      have HJ : qH 196 #[.agg #[.int .i64 (att s (x)), .int .i64 (fin s (att s Y))], .agg #[.int .i64 (att s (x - 1)), .int .i64 (fin s (att s (x - 1)))]] (.agg #[.int .i64 (att s (x - 1)), .int .i64 (fin s (att s Y))]) := by
       intro ww
       have := tJoin_nat (att s (x)) (fin s (att s Y)) (att s (x - 1)) (fin s (att s (x - 1))) ww
       rw [show min (att s (x)) (att s (x - 1)) = att s (x - 1) by omega, show max (fin s (att s Y)) (fin s (att s (x - 1))) = fin s (att s Y) by omega] at this
       exact this
      obtain ⟨A2, B2, hAB2, HB2⟩ := tBes_up s (fin s (att s Y)) (x - 1) hs qo
      have HB2 : qH 223 #[.string s, .agg #[.int .i64 (att s (x - 1)), .int .i64 (fin s (att s Y))], .int .i64 (-1)] (.tuple #[.agg #[.int .i64 (A2), .int .i64 (B2)], .bool (decide (0 < (x - 1)))]) := HB2
      clear m1 m2 hE hAB HF
      go_wp2_with fail
      refine wp_region_held_drew (S := fun ww => ww.cell? ⟨nb, 0, none⟩ = some (.int .i64 (att s (x - 1))) ∧ ww.cell? ⟨nb, 1, none⟩ = some (.int .i64 (fin s (att s (x - 1)))) ∧ ww.cell? ⟨w.heap.size, 0, none⟩ = some (.int .i64 (att s m)) ∧ ww.cell? ⟨w.heap.size, 1, none⟩ = some (.int .i64 (fin s (att s m)))) qk ?_ (fun hHeld => ?_)
      ·exact qt60
      refine qT 0 ?_
      simp only [Act.put, qP]
      refine qT 1 ?_
      simp only [Act.put, qP]
      refine qT 2 ?_
      simp only [Act.put, qP]
      refine qT 4 ?_
      simp only [Act.put, qP]
      refine qR 3 fun K hK => ?_
      rw [if_pos (by rfl)]
      go_wp2_with fail
      refine (HEn.out _).mono ?_
      rintro r5 w5 ⟨rfl, h5⟩
      obtain ⟨hc5, hf5, hz5⟩ := qb h5
      (try simp at hz5)
      go_wp2_with fail
      refine hK.out _ _ ?_ (fun hHeld => ?_)
      ·exact qt49
      clear hK K
      try simp only [Act.put, qP]
      clear hc5 hf5
      refine qR 5 fun K hK => ?_
      rw [if_pos (by rfl)]
      go_wp2_with fail
      refine (HEm.out _).mono ?_
      rintro r6 w6 ⟨rfl, h6⟩
      obtain ⟨hc6, hf6, hz6⟩ := qb h6
      (try simp at hz6)
      go_wp2_with fail
      refine hK.out _ _ ?_ (fun hHeld => ?_)
      ·exact qt44
      clear hK K
      try simp only [Act.put, qP]
      clear hc6 hf6
      refine qT 6 ?_
      simp only [Act.put, qP]
      refine qT 7 ?_
      simp only [Act.put, qP]
      refine wpAnyH_done qk ?_ _
      have hB6 : Below w.heap.size w w6 := by
       repeat exact qB
      have z6 := hB6.size
      have L6 := ((L.drew).below h5).below h6
      have Q6 := ((Q.drew).below h5).below h6
      have T6 := ((T.drew).below h5).below h6
      have N6 := ((N.drew).below h5).below h6
      clear L Q T N l0 l1 ll q0 q1 qz ql t0 t1 tz tl n0 n1 nz nl hB zB h5 h6
      have ⟨q0, q1, qz, ql⟩ := Q6
      have ⟨t0, t1, tz, tl⟩ := T6
      have ⟨n0, n1, nz, nl⟩ := N6
      go_wp2_with fail
      refine (HJ.out _).mono ?_
      rintro e w7 ⟨rfl, h7⟩
      obtain ⟨hc7, hf7, hz7⟩ := qb h7
      try simp at hz7
      have L7 := L6.below h7; have Q7 := Q6.below h7; have T7 := T6.below h7; have N7 := N6.below h7
      have z7 := h7.size
      clear hc7 hf7 L6 Q6 T6 N6 q0 q1 qz ql t0 t1 tz tl n0 n1 nz nl
      have ⟨t0, t1, tz, tl⟩ := T7
      have ⟨n0, n1, nz, nl⟩ := N7
      have hB7 : Below w.heap.size w w7 := by
       repeat exact qB
      have T8 : Two ((w7.setCell ⟨w.heap.size + 1 + 1, 0, none⟩ (.int .i64 (att s (x - 1)))).setCell ⟨w.heap.size + 1 + 1, 1, none⟩ (.int .i64 (fin s (att s Y)))) (w.heap.size + 1 + 1) (att s (x - 1)) (fin s (att s Y)) := Two.set1 (Two.set0 T7 _) _
      have L8 : Two ((w7.setCell ⟨w.heap.size + 1 + 1, 0, none⟩ (.int .i64 (att s (x - 1)))).setCell ⟨w.heap.size + 1 + 1, 1, none⟩ (.int .i64 (fin s (att s Y)))) w.heap.size (att s m) (fin s (att s m)) := Two.other (Two.other L7 qf _) qf _
      have Q8 : Two ((w7.setCell ⟨w.heap.size + 1 + 1, 0, none⟩ (.int .i64 (att s (x - 1)))).setCell ⟨w.heap.size + 1 + 1, 1, none⟩ (.int .i64 (fin s (att s Y)))) (w.heap.size + 1) 0 0 := Two.other (Two.other Q7 qf _) qf _
      have N8 : Two ((w7.setCell ⟨w.heap.size + 1 + 1, 0, none⟩ (.int .i64 (att s (x - 1)))).setCell ⟨w.heap.size + 1 + 1, 1, none⟩ (.int .i64 (fin s (att s Y)))) nb (att s (x - 1)) (fin s (att s (x - 1))) := Two.other (Two.other N7 qf _) qf _
      have hB8 : Below w.heap.size w ((w7.setCell ⟨w.heap.size + 1 + 1, 0, none⟩ (.int .i64 (att s (x - 1)))).setCell ⟨w.heap.size + 1 + 1, 1, none⟩ (.int .i64 (fin s (att s Y)))) := Below.setCell (Below.setCell hB7 qf _) qf _
      have x0 := T8.c0; have x1 := T8.c1
      go_wp2_with fail
      refine (HB2.out _).mono ?_
      rintro e w9 ⟨rfl, h9⟩
      obtain ⟨hc9, hf9, hz9⟩ := qb h9
      try simp at hz9
      have L9 := L8.below h9; have Q9 := Q8.below h9; have T9 := T8.below h9; have N9 := N8.below h9
      have hB9 : Below w.heap.size w w9 := hB8.trans (h9.mono hB8.size)
      have ⟨m0, m1, mz, ml⟩ := N9
      clear hc9 hf9
      go_wp2
      go_roundg (x - 1)
      case measure => omega
      case rel => exact ⟨x - 1, A2, B2, by omega, rfl, hAB2, rfl, HF2, Two.other (Two.other L9 qf _) qf _, Two.other (Two.other Q9 qf _) qf _, Two.other (Two.other T9 qf _) qf _, Two.set1 (Two.set0 N9 _) _, Below.setCell (Below.setCell hB9 qf _) qf _⟩
     ·have HEn : qH 185 #[.agg #[.int .i64 (att s (x - 1)), .int .i64 (fin s (att s (x - 1)))]] (.bool (lem s (x - 1))) := hEn
      have eY : Hid (x = X0) := by
       have := HF.out
       rw [show x = (x - 1) + 1 by omega] at this
       simp only [alU] at this
       rw [if_neg hE] at this
       rw [Hid]
       omega
      have hE2 : (lem s (x - 1) == lem s m) = false := by simp [hE]
      generalize lem s (x - 1) = e1 at *
      have HEm2 := HEm
      generalize lem s m = e2 at *
      clear HF
      go_wp2_with fail
      refine wp_region_held_drew (S := fun ww => ww.cell? ⟨nb, 0, none⟩ = some (.int .i64 (att s (x - 1))) ∧ ww.cell? ⟨nb, 1, none⟩ = some (.int .i64 (fin s (att s (x - 1)))) ∧ ww.cell? ⟨w.heap.size, 0, none⟩ = some (.int .i64 (att s m)) ∧ ww.cell? ⟨w.heap.size, 1, none⟩ = some (.int .i64 (fin s (att s m)))) qk ?_ (fun hHeld => ?_)
      ·exact qt60
      refine qT 0 ?_
      simp only [Act.put, qP]
      refine qT 1 ?_
      simp only [Act.put, qP]
      refine qT 2 ?_
      simp only [Act.put, qP]
      refine qT 4 ?_
      simp only [Act.put, qP]
      refine qR 3 fun K hK => ?_
      rw [if_pos (by rfl)]
      go_wp2_with fail
      refine (HEn.out _).mono ?_
      rintro r5 w5 ⟨rfl, h5⟩
      obtain ⟨hc5, hf5, hz5⟩ := qb h5
      (try simp at hz5)
      go_wp2_with fail
      refine hK.out _ _ ?_ (fun hHeld => ?_)
      ·exact qt49
      clear hK K
      try simp only [Act.put, qP]
      clear hc5 hf5
      refine qR 5 fun K hK => ?_
      rw [if_pos (by rfl)]
      go_wp2_with fail
      refine (HEm.out _).mono ?_
      rintro r6 w6 ⟨rfl, h6⟩
      obtain ⟨hc6, hf6, hz6⟩ := qb h6
      (try simp at hz6)
      go_wp2_with fail
      refine hK.out _ _ ?_ (fun hHeld => ?_)
      ·exact qt44
      clear hK K
      try simp only [Act.put, qP]
      clear hc6 hf6
      refine qT 6 ?_
      simp only [Act.put, qP]
      refine qT 7 ?_
      simp only [Act.put, qP]
      refine wpAnyH_done qk ?_ _
      have hB6 : Below w.heap.size w w6 := by
       repeat exact qB
      have z6 := hB6.size
      have L6 := ((L.drew).below h5).below h6
      have Q6 := ((Q.drew).below h5).below h6
      have T6 := ((T.drew).below h5).below h6
      have N6 := ((N.drew).below h5).below h6
      clear L Q T N l0 l1 ll q0 q1 qz ql t0 t1 tz tl n0 n1 nz nl hB zB h5 h6
      have ⟨q0, q1, qz, ql⟩ := Q6
      have ⟨t0, t1, tz, tl⟩ := T6
      have ⟨n0, n1, nz, nl⟩ := N6
      have eY := eY.out
      subst eY
      go_wp2
      go_round
      case rel => exact ⟨2, x, Y, by go_num, Or.inr (Or.inr ⟨rfl, rfl, rfl⟩), L6, Q6, T6, hB6⟩
      case measure => simp [intOf] <;> omega
    ·rw [decide_eq_false hc]
     have eY : x = X0 := by
      have := HF.out
      rw [show x = 0 by omega] at this
      rw [show x = 0 by omega]
      exact this
     subst eY
     go_wp2_with fail
     refine wp_region_held_drew (S := fun ww => ww.cell? ⟨w.heap.size, 0, none⟩ = some (.int .i64 (att s m))) qk ?_ (fun hHeld => ?_)
     ·exact memLater ((Below.refl _ _).drew) l0
     refine qT 0 ?_
     simp only [Act.put, qP]
     refine qT 1 ?_
     simp only [Act.put, qP]
     refine qS 2 ?_
     simp only [Act.put, qP]
     refine qS 3 ?_
     simp only [Act.put, qP]
     refine qS 4 ?_
     simp only [Act.put, qP]
     refine qS 5 ?_
     simp only [Act.put, qP]
     refine qS 6 ?_
     simp only [Act.put, qP]
     refine qT 7 ?_
     simp only [Act.put, qP]
     refine wpAnyH_done qk ?_ _
     go_wp2
     go_round
     case rel => exact ⟨2, x, Y, by go_num, Or.inr (Or.inr ⟨rfl, rfl, rfl⟩), L.drew, Q.drew, T.drew, hB.drew⟩
     case measure => simp [intOf] <;> omega
  ·have ex := ex.symm
   have ey := ey.symm
   subst ek ex ey
   go_wp2
   exact qV (.agg #[.int .i64 (att s X0), .int .i64 (fin s (att s Y))]) (by simp [results, results262, go_sem, q0, q1, qz, ql]) rfl
theorem bType_none (b : Nat) (s : ByteArray) (I : Nat → World → Prop) (w : World) (h : I 0 w) (hs : s.size ≤ 17592186044416)
  (HK : ∀ k, (hk : k < s.size) → ∀ ww, I k ww → Calls Tryz.prog 38 #[.pointer (some ⟨b, 0, none⟩), .int .u8 (s[k]'hk).toNat] ww fun e w' => ∃ O : Int, e = .returned (.int .i64 O) ∧ ¬ O = 4 ∧ I (k + 1) w') :
  Calls Tryz.prog 30 #[.pointer (some ⟨b, 0, none⟩), .string s] w fun e w' => e = .returned (.int .i64 0) ∧ I s.size w' := by
 have HK' : Hid (∀ k, (hk : k < s.size) → ∀ ww, I k ww → Calls Tryz.prog 38 #[.pointer (some ⟨b, 0, none⟩), .int .u8 (s[k]'hk).toNat] ww fun e w' => ∃ O : Int, e = .returned (.int .i64 O) ∧ ¬ O = 4 ∧ I (k + 1) w') := HK
 clear HK
 go_enter func30, ntmps30
 go_wp2
 go_loopw [5, 9] (fun m i wr => ∃ k : Nat, k ≤ s.size ∧ i = .int .i64 k ∧ m = .int .i64 0 ∧ I k wr) (fun _ i _ => s.size - (intOf i).toNat)
 case atStart => exact ⟨0, Nat.zero_le _, rfl, rfl, h⟩
 case round =>
  obtain ⟨k, hk, rfl, rfl, h1⟩ := hrel
  by_cases hlt : k < s.size
  ·have HC := HK'.out k hlt _ h1
   go_wp2_with fail
   refine Calls.mono HC ?_
   rintro e w1 ⟨O, rfl, hO, h2⟩
   clear h1 HC
   have hO' : (O == 4) = false := by simp [hO]
   clear hO
   go_wp2
   go_roundw
   case rel => exact ⟨k + 1, by omega, by go_num, rfl, h2⟩
   case measure => simp [intOf] <;> omega
  ·have hkn : k = s.size := by omega
   subst hkn
   go_wp2
   go_ret
   exact ⟨rfl, h1⟩
