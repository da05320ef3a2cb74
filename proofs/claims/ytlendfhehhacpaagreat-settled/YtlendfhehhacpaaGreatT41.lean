/- A part. -/
import Derived.Test.YtlendfhehhacpaaGreatT38
import Derived.Test.YtlendfhehhacpaaGreatT36
set_option linter.unusedVariables false
set_option linter.unusedSimpArgs false
set_option maxRecDepth 100000
set_option maxHeartbeats 8000000
namespace Go.Proofs.YtlendfhehhacpaaGreat
open Go.RowKit Nib Tryz
theorem mReplace_no (r : Nat) (c : Int) (w : World) (hc : ¬ (c = 9 ∨ 32 ≤ c)) :
  qC 144 #[.agg #[.pointer (some ⟨r, 0, none⟩)], .int .u8 c] w (.int .i64 4) := by
 have HI : Hid (∀ ww, Calls Tryz.prog 163 #[.int .u8 c] ww fun e w' => e = .returned (.bool false) ∧ w' = ww) := by
  intro ww
  have := mWritten c ww
  rw [decide_eq_false hc] at this
  exact this
 go_enter func144, ntmps144
 go_wp2_with fail
 refine (HI.out _).mono ?_
 rintro e w' ⟨rfl, rfl⟩
 go_wp2
 go_ret
 refine ⟨rfl, ?_⟩
 repeat exact qB
theorem mReplace (r d : Nat) (p : Pg) (c O : Int) (X : ByteArray) (q : Int) (is : Bool) (A B : World → Prop) (T : List Nat) (w : World) (hA : A w) (fA : Firm A) (fB : Firm B) (hr : HasR A r d p) (hTl : ∀ k, k ∈ T → k < w.heap.size) (hc : c = 9 ∨ 32 ≤ c)
  (HS : Hid (∀ ww, A ww → qC 156 #[.agg #[.pointer (some ⟨r, 0, none⟩)]] ww (.agg #[.string p.t, .int .i64 p.pl, .int .i64 (max (cnt p) 1 : Nat)])))
  (HX : qH 164 #[.agg #[.string p.t, .int .i64 p.pl, .int .i64 (max (cnt p) 1 : Nat)], .int .u8 c] (.tuple #[.string X, .int .i64 q, .bool is]))
  (HE : GivesB 155 #[.agg #[.pointer (some ⟨r, 0, none⟩)], .string X, .int .i64 q, .bool is] A B O T) :
  Calls Tryz.prog 144 #[.agg #[.pointer (some ⟨r, 0, none⟩)], .int .u8 c] w fun e w' => e = .returned (.int .i64 O) ∧ B w' ∧ Upd T w w' := by
 have HI : Hid (∀ ww, Calls Tryz.prog 163 #[.int .u8 c] ww fun e w' => e = .returned (.bool true) ∧ w' = ww) := by
  intro ww
  have := mWritten c ww
  rw [decide_eq_true hc] at this
  exact this
 have hTw : w.heap.size ∉ T := fun hk => by have := hTl _ hk; omega
 generalize max (cnt p) 1 = N at *
 clear hc
 go_enter func144, ntmps144
 go_wp2_with fail
 refine (HI.out _).mono ?_
 rintro e w' ⟨rfl, rfl⟩
 have g0 : (w.alloc (.cells #[.pointer (some ⟨r, 0, none⟩)] 77)).cell? ⟨w.heap.size, 0, none⟩ = some (.pointer (some ⟨r, 0, none⟩)) := by simp
 go_wp2_with fail
 go_region_held3 (fun ww => ww.cell? ⟨w.heap.size, 0, none⟩ = some (.pointer (some ⟨r, 0, none⟩))) ((first | (go_simp; done) | ((repeat exact qM); done))) (first | (go_at_call 156; refine Calls.mono (HS.out _ (fA _ _ hA qB)) ?_; rintro r1 w1 ⟨rfl, h1⟩; have hz1 := h1.size; (try simp at hz1); (try have ⟨hl1_0, hk1_0⟩ := qL w.heap.size w1.heap.size)) | (go_at_call 164; refine Calls.mono (HX.out _) ?_; rintro r2 w2 ⟨rfl, h2⟩; have hz2 := h2.size; (try simp at hz2); (try have ⟨hl2_0, hk2_0⟩ := qL w.heap.size w2.heap.size)) | (go_at_call 155; refine Calls.mono (HE.out _ (fA _ _ hA qB)) ?_; rintro r3 w3 ⟨rfl, h3, u3⟩; have hz3 := u3.size; (try simp at hz3); have a1 := u3.was (b := w.heap.size) (o := 0) (v := .pointer (some ⟨r, 0, none⟩)) qM hTw))
 exact qt61
theorem mBehind_await (r d : Nat) (p : Pg) (key O : Int) (A B : World → Prop) (T : List Nat) (w : World) (hA : A w) (fA : Firm A) (fB : Firm B) (hr : HasR A r d p) (hv : ¬ p.verb = key) (hk : key = 105 ∨ key = 97)
  (HC : GivesB 142 #[.pointer (some ⟨r, 1, none⟩), .int .u8 key] A B O T) :
  Calls Tryz.prog 140 #[.agg #[.pointer (some ⟨r, 0, none⟩)], .int .u8 key] w fun e w' => e = .returned (.int .i64 O) ∧ B w' ∧ Upd T w w' := by
 have h := hr w hA
 have b3 := h.bg.c3
 have bl := h.bg.lt
 have l1 : r < w.heap.size + 1 := by omega
 have e1 : (key == p.verb) = false := by simp; exact fun e => hv e.symm
 have e2 : (p.verb == key) = false := by simp [hv]
 clear h
 rcases hk with hk | hk
 all_goals
  subst hk
  go_enter func140, ntmps140
  go_wp2_with fail
  refine Calls.mono (HC.out _ (fA _ _ hA qB)) ?_
  rintro e w2 ⟨rfl, h2, u2⟩
  go_wp2
  go_ret
  refine ⟨rfl, ?_, ?_⟩
  ·exact (fB _ _ h2 qB)
  ·repeat exact qU
structure LyAt (w W : World) (r k : Nat) (s : ByteArray) (l : Bool) (A : World → Prop) : Prop where
 a : A W
 g : W.cell? ⟨w.heap.size, 0, none⟩ = some (.pointer (some ⟨r, 0, none⟩))
 x0 : W.cell? ⟨k, 0, none⟩ = some (.string s)
 x1 : W.cell? ⟨k, 1, none⟩ = some (.bool l)
 lg : w.heap.size < W.heap.size
 lk : k < W.heap.size
 lw : w.heap.size < k
 up : Below w.heap.size w W
theorem mLay (r d m : Nat) (p : Pg) (key O : Int) (s : ByteArray) (l : Bool) (X : ByteArray) (q : Int) (is : Bool) (A B : World → Prop) (T : List Nat) (w : World) (hA : A w) (fA : Firm A) (fB : Firm B) (hr : HasR A r d p) (hm : p.regs = .map (some m)) (hTl : ∀ k, k ∈ T → k < w.heap.size) (hk : key = 112 ∨ key = 80)
  (HR : Hid (∀ ww, A ww → qC 189 #[.map (some m), .int .u8 p.reg] ww (.agg #[.string s, .bool l])))
  (HS : Hid (∀ ww, A ww → qC 156 #[.agg #[.pointer (some ⟨r, 0, none⟩)]] ww (.agg #[.string p.t, .int .i64 p.pl, .int .i64 (max (cnt p) 1 : Nat)])))
  (HX : qH 190 #[.agg #[.string p.t, .int .i64 p.pl, .int .i64 (max (cnt p) 1 : Nat)], .string s, .bool l, .bool (key == 112)] (.tuple #[.string X, .int .i64 q, .bool is]))
  (HE : GivesB 155 #[.agg #[.pointer (some ⟨r, 0, none⟩)], .string X, .int .i64 q, .bool is] A B O T) :
  Calls Tryz.prog 154 #[.agg #[.pointer (some ⟨r, 0, none⟩)], .int .u8 key] w fun e w' => e = .returned (.int .i64 O) ∧ B w' ∧ Upd T w w' := by
 have h := hr w hA
 have b0 := h.bg.c0
 have b1 := h.bg.c1
 have c4 := h.dk.c4
 rw [hm] at c4
 have bl := h.bg.lt
 have dl := h.dk.lt
 have hTw : w.heap.size ∉ T := fun hk => by have := hTl _ hk; omega
 generalize max (cnt p) 1 = N at *
 generalize hkb : (key == 112) = KB at *
 clear h hk
 go_enter func154, ntmps154
 go_wp2_with fail
 have A0 : A (w.alloc (.cells #[.pointer (some ⟨r, 0, none⟩)] 77)) := (fA _ _ hA qB)
 have g0 : (w.alloc (.cells #[.pointer (some ⟨r, 0, none⟩)] 77)).cell? ⟨w.heap.size, 0, none⟩ = some (.pointer (some ⟨r, 0, none⟩)) := by simp
 have b0' : (w.alloc (.cells #[.pointer (some ⟨r, 0, none⟩)] 77)).cell? ⟨r, 0, none⟩ = some (.pointer (some ⟨d, 0, none⟩)) := memLater ((Below.refl _ _).alloc (Nat.le_refl _) _) b0
 have b1' : (w.alloc (.cells #[.pointer (some ⟨r, 0, none⟩)] 77)).cell? ⟨r, 1, none⟩ = some (.int .u8 p.reg) := memLater ((Below.refl _ _).alloc (Nat.le_refl _) _) b1
 have c4' : (w.alloc (.cells #[.pointer (some ⟨r, 0, none⟩)] 77)).cell? ⟨d, 4, none⟩ = some (.map (some m)) := memLater ((Below.refl _ _).alloc (Nat.le_refl _) _) c4
 have U0 : Below w.heap.size w (w.alloc (.cells #[.pointer (some ⟨r, 0, none⟩)] 77)) := by
  repeat exact qB
 have k0 : w.heap.size < (w.alloc (.cells #[.pointer (some ⟨r, 0, none⟩)] 77)).heap.size := by simp
 have k1 : r < (w.alloc (.cells #[.pointer (some ⟨r, 0, none⟩)] 77)).heap.size := by simp; omega
 have k2 : d < (w.alloc (.cells #[.pointer (some ⟨r, 0, none⟩)] 77)).heap.size := by simp; omega
 generalize (w.alloc (.cells #[.pointer (some ⟨r, 0, none⟩)] 77)) = W0 at *
 have HRw : Hid (∀ ww, (ww = W0.drew ∨ ww = (W0.alloc (.cells #[.string ⟨#[]⟩, .bool false] 99)).drew) → qC 189 #[.map (some m), .int .u8 p.reg] ww (.agg #[.string s, .bool l])) := by
  rintro ww (rfl | rfl)
  ·exact HR.out _ (fA _ _ A0 qB)
  ·exact HR.out _ (fA _ _ A0 qB)
 go_wp2_with fail
 go_region_held3 (fun ww => ww.cell? ⟨w.heap.size, 0, none⟩ = some (.pointer (some ⟨r, 0, none⟩)) ∧ ww.cell? ⟨r, 0, none⟩ = some (.pointer (some ⟨d, 0, none⟩)) ∧ ww.cell? ⟨r, 1, none⟩ = some (.int .u8 p.reg) ∧ ww.cell? ⟨d, 4, none⟩ = some (.map (some m))) (exact qK) (first | (go_at_call 189; with_reducible refine Calls.mono (HRw.out ((W0.alloc (.cells #[.string ⟨#[]⟩, .bool false] 99)).drew) (by first | exact Or.inl rfl | exact Or.inr rfl)) ?_; rintro r1 w1 ⟨rfl, h1⟩; have hz1 := h1.size; (try simp at hz1); (try have ⟨hl1_0, hk1_0⟩ := qL d w1.heap.size); (try have ⟨hl1_1, hk1_1⟩ := qL r w1.heap.size); (try have ⟨hl1_2, hk1_2⟩ := qL w.heap.size w1.heap.size); have nv0_0 : w1.cell? ⟨W0.heap.size, 0, none⟩ = some (.string ⟨#[]⟩) := ((bcell h1).1 _ _ qO).trans qi; have nv0_1 : w1.cell? ⟨W0.heap.size, 1, none⟩ = some (.bool false) := ((bcell h1).1 _ _ qO).trans qi; have nz0 : ∀ o, w1.frozen? ⟨W0.heap.size, o, none⟩ = false := fun o => ((bcell h1).2 _ o qO).trans qi; have nl0 : W0.heap.size < w1.heap.size := qo) | (go_at_call 189; with_reducible refine Calls.mono (HRw.out (W0.drew) (by first | exact Or.inl rfl | exact Or.inr rfl)) ?_; rintro r1 w1 ⟨rfl, h1⟩; have hz1 := h1.size; (try simp at hz1); (try have ⟨hl1_0, hk1_0⟩ := qL d w1.heap.size); (try have ⟨hl1_1, hk1_1⟩ := qL r w1.heap.size); (try have ⟨hl1_2, hk1_2⟩ := qL w.heap.size w1.heap.size)))
 have E : LyAt w (w1.alloc (.cells #[.string s, .bool l] 99)) r w1.heap.size s l A := by
  refine ⟨(fA _ _ A0 qB), memLater ((Below.refl _ _).alloc (Nat.le_refl _) _) (memLater h1 (memLater ((Below.refl _ _).drew) g0)), by simp, by simp, by simp; omega, by simp, by omega, ?_⟩
  have zw := U0.size
  repeat exact qB
 generalize (w1.alloc (.cells #[.string s, .bool l] 99)) = W at *
 generalize w1.heap.size = k at *
 rotate_left
 have E : LyAt w ((w1.setCell ⟨W0.heap.size, 0, none⟩ (.string s)).setCell ⟨W0.heap.size, 1, none⟩ (.bool l)) r W0.heap.size s l A := by
  refine ⟨(fA _ _ A0 qB), (memSet qo).trans ((memSet qo).trans (memLater h1 (memLater ((Below.refl _ _).drew) (memLater ((Below.refl _ _).alloc (Nat.le_refl _) _) g0)))), by go_simp, by go_simp, by simp [World.setCell]; omega, by simp [World.setCell]; omega, by omega, ?_⟩
  have zw := U0.size
  repeat exact qB
 generalize ((w1.setCell ⟨W0.heap.size, 0, none⟩ (.string s)).setCell ⟨W0.heap.size, 1, none⟩ (.bool l)) = W at *
 generalize W0.heap.size = k at *
 all_goals
  obtain ⟨AW, eg, e0, e1, lg, lk, lw, up⟩ := E
  have hTk : k ∉ T := fun hk => by have := hTl _ hk; omega
  clear A0 g0 b0' b1' c4' U0
  go_wp2_with fail
  go_region_held3 (fun ww => ww.cell? ⟨w.heap.size, 0, none⟩ = some (.pointer (some ⟨r, 0, none⟩)) ∧ ww.cell? ⟨k, 0, none⟩ = some (.string s) ∧ ww.cell? ⟨k, 1, none⟩ = some (.bool l)) (exact qK) (first | (go_at_call 156; refine Calls.mono (HS.out _ (fA _ _ AW qB)) ?_; rintro r5 w5 ⟨rfl, h5⟩; have hz5 := h5.size; (try simp at hz5); (try have ⟨hl5_0, hk5_0⟩ := qL k w5.heap.size); (try have ⟨hl5_1, hk5_1⟩ := qL w.heap.size w5.heap.size)) | (go_at_call 190; refine Calls.mono (HX.out _) ?_; rintro r6 w6 ⟨rfl, h6⟩; have hz6 := h6.size; (try simp at hz6); (try have ⟨hl6_0, hk6_0⟩ := qL k w6.heap.size); (try have ⟨hl6_1, hk6_1⟩ := qL w.heap.size w6.heap.size)) | (go_at_call 155; refine Calls.mono (HE.out _ (fA _ _ AW qB)) ?_; rintro r3 w3 ⟨rfl, h3, u3⟩; have hz3 := u3.size; (try simp at hz3); have a1 := u3.was (memLater h6 (memLater h5 (memLater ((Below.refl _ _).drew) eg))) hTw; have a2 := u3.was (memLater h6 (memLater h5 (memLater ((Below.refl _ _).drew) e0))) hTk; have a3 := u3.was (memLater h6 (memLater h5 (memLater ((Below.refl _ _).drew) e1))) hTk))
  go_wp2
  go_ret
  refine ⟨rfl, ?_, ?_⟩
  ·exact (fB _ _ h3 qB)
  ·have U9 : Upd T w W := Upd.of_below up
   repeat exact qU
def spV (key : Int) : Int := if key = 120 ∨ key = 88 ∨ key = 68 then 100 else if key = 67 ∨ key = 115 ∨ key = 83 then 99 else 121
def spK (key : Int) : Int := if key = 120 ∨ key = 115 then 108 else if key = 88 then 104 else if key = 68 ∨ key = 67 then 36 else if key = 83 then 99 else 121
theorem mSpelled (key : Int) (w : World) (hk : key = 120 ∨ key = 88 ∨ key = 68 ∨ key = 67 ∨ key = 115 ∨ key = 83 ∨ key = 89) :
  Calls Tryz.prog 186 #[.int .u8 key] w fun e w' => e = .returned (.tuple #[.int .u8 (spV key), .int .u8 (spK key)]) ∧ w' = w := by
 rcases hk with hk | hk | hk | hk | hk | hk | hk
 all_goals
  subst hk
  go_enter func186, ntmps186
  go_wp2
  go_ret2
  exact ⟨rfl, rfl⟩
theorem mLine_emp (r d : Nat) (p : Pg) (hs : p.t.size ≤ 1000) (hl : p.pl ≤ p.t.size) (E : Bool) (hE : E = decide (beg p.t p.pl = fin p.t p.pl)) : ∀ ww, qC 185 #[.agg #[.int .i64 (beg p.t p.pl), .int .i64 (fin p.t p.pl)]] ww (.bool E) := by
 intro ww
 have := tIsEmpty_any (beg p.t p.pl) (fin p.t p.pl) ww
 rw [show (((beg p.t p.pl : Nat) : Int) == ((fin p.t p.pl : Nat) : Int)) = E by
  rw [hE]
  by_cases e : beg p.t p.pl = fin p.t p.pl
  ·rw [decide_eq_true e, beq_iff_eq.2 qo]
  ·rw [decide_eq_false e, beq_eq_false_iff_ne.2 qo]] at this
 exact this
theorem mShort_fail (r d : Nat) (p : Pg) (w : World) (h : RdAt w r d p) (hs : p.t.size ≤ 1000) (hl : p.pl ≤ p.t.size) (he : beg p.t p.pl = fin p.t p.pl) :
  qC 151 #[.agg #[.pointer (some ⟨r, 0, none⟩)], .int .u8 68] w (.int .i64 4) := by
 have HL : Hid (∀ ww, RdAt ww r d p → qC 181 #[.pointer (some ⟨d, 0, none⟩)] ww (.agg #[.int .i64 (beg p.t p.pl), .int .i64 (fin p.t p.pl)])) := fun ww hh => mLine r d p ww hh hs hl
 have HE : qH 185 #[.agg #[.int .i64 (beg p.t p.pl), .int .i64 (fin p.t p.pl)]] (.bool true) := mLine_emp r d p hs hl true (by rw [decide_eq_true he])
 have b0 := h.bg.c0
 have bl := h.bg.lt
 have l1 : r < w.heap.size + 1 := by omega
 clear he
 generalize beg p.t p.pl = LB at *
 generalize fin p.t p.pl = LE at *
 go_enter func151, ntmps151
 go_wp2_with fail
 refine Calls.mono (HL.out _ qRd) ?_
 rintro e w1 ⟨rfl, h1⟩
 go_wp2_with fail
 refine Calls.mono (HE.out _) ?_
 rintro e w2 ⟨rfl, h2⟩
 go_wp2
 go_ret
 refine ⟨rfl, ?_⟩
 have z1 := h1.size
 (try simp at z1)
 repeat exact qB
theorem mShort_begin (r d : Nat) (p : Pg) (key O : Int) (A B : World → Prop) (T : List Nat) (w : World) (hA : A w) (fA : Firm A) (fB : Firm B) (hr : HasR A r d p) (hs : p.t.size ≤ 1000) (hl : p.pl ≤ p.t.size) (he : beg p.t p.pl = fin p.t p.pl) (hk : key = 67 ∨ key = 115)
  (HB : GivesB 152 #[.agg #[.pointer (some ⟨r, 0, none⟩)], .int .u8 105] A B O T) :
  Calls Tryz.prog 151 #[.agg #[.pointer (some ⟨r, 0, none⟩)], .int .u8 key] w fun e w' => e = .returned (.int .i64 O) ∧ B w' ∧ Upd T w w' := by
 have HL : Hid (∀ ww, A ww → qC 181 #[.pointer (some ⟨d, 0, none⟩)] ww (.agg #[.int .i64 (beg p.t p.pl), .int .i64 (fin p.t p.pl)])) := fun ww hh => mLine r d p ww (hr ww hh) hs hl
 have HE : qH 185 #[.agg #[.int .i64 (beg p.t p.pl), .int .i64 (fin p.t p.pl)]] (.bool true) := mLine_emp r d p hs hl true (by rw [decide_eq_true he])
 have h := hr w hA
 have b0 := h.bg.c0
 have bl := h.bg.lt
 have l1 : r < w.heap.size + 1 := by omega
 clear he h
 generalize beg p.t p.pl = LB at *
 generalize fin p.t p.pl = LE at *
 rcases hk with hk | hk
 all_goals
  subst hk
  go_enter func151, ntmps151
  go_wp2_with fail
  refine Calls.mono (HL.out _ (fA _ _ hA qB)) ?_
  rintro e w1 ⟨rfl, h1⟩
  have z1 := h1.size
  (try simp at z1)
  have g1 : w1.cell? ⟨w.heap.size, 0, none⟩ = some (.pointer (some ⟨r, 0, none⟩)) := memLater h1 qi
  go_wp2_with fail
  refine Calls.mono (HE.out _) ?_
  rintro e w2 ⟨rfl, h2⟩
  have z2 := h2.size
  (try simp at z2)
  have g2 := memLater h2 g1
  go_wp2_with fail
  refine Calls.mono (HB.out _ (fA _ _ hA qB)) ?_
  rintro e w3 ⟨rfl, h3, u3⟩
  go_wp2
  go_ret
  refine ⟨rfl, ?_, ?_⟩
  ·exact (fB _ _ h3 qB)
  ·repeat exact qU
theorem qt39 {P : Prop} (h : P := by
  clear hEk hk
  go_enter func151, ntmps151
  go_wp2_with fail
  refine Calls.mono (HL.out _ (fA _ _ hA qB)) ?_
  rintro e w1 ⟨rfl, h1⟩
  have z1 := h1.size
  (try simp at z1)
  have g1 : w1.cell? ⟨w.heap.size, 0, none⟩ = some (.pointer (some ⟨r, 0, none⟩)) := memLater h1 qi
  go_wp2_with fail
  refine Calls.mono (HE.out _) ?_
  rintro e w2 ⟨rfl, h2⟩
  have z2 := h2.size
  (try simp at z2)
  have g2 := memLater h2 g1
  have A2 : A w2 := (fA _ _ hA qB)
  obtain ⟨qz, q3, q0, ql⟩ := HZ _ A2
  go_wp2_with fail
  refine (HSp.out _).mono ?_
  rintro e w' ⟨rfl, rfl⟩
  have A3 := HP.out _ A2
  go_wp2_with fail
  refine Calls.mono (HB.out _ A3) ?_
  rintro e w3 ⟨rfl, h3, u3⟩
  go_wp2
  go_ret
  refine ⟨rfl, ?_, ?_⟩
  ·exact (fB _ _ h3 qB)
  ·refine Upd.trans (Upd.setCell ?_ (Or.inl hrT) _) u3
   repeat exact qU
 ) : P := h
theorem mShort_verb (r d : Nat) (p : Pg) (key O : Int) (A A1 B : World → Prop) (T : List Nat) (w : World) (hA : A w) (fA : Firm A) (fA1 : Firm A1) (fB : Firm B) (hr : HasR A r d p) (hs : p.t.size ≤ 1000) (hl : p.pl ≤ p.t.size) (hrT : r ∈ T) (hk : key = 120 ∨ key = 88 ∨ key = 68 ∨ key = 67 ∨ key = 115 ∨ key = 83 ∨ key = 89) (he : (key = 68 ∨ key = 67 ∨ key = 115) → ¬ beg p.t p.pl = fin p.t p.pl)
  (HP : Hid (∀ ww, A ww → A1 (ww.setCell ⟨r, 3, none⟩ (.int .u8 (spV key)))))
  (HB : GivesB 140 #[.agg #[.pointer (some ⟨r, 0, none⟩)], .int .u8 (spK key)] A1 B O T) :
  Calls Tryz.prog 151 #[.agg #[.pointer (some ⟨r, 0, none⟩)], .int .u8 key] w fun e w' => e = .returned (.int .i64 O) ∧ B w' ∧ Upd T w w' := by
 have HL : Hid (∀ ww, A ww → qC 181 #[.pointer (some ⟨d, 0, none⟩)] ww (.agg #[.int .i64 (beg p.t p.pl), .int .i64 (fin p.t p.pl)])) := fun ww hh => mLine r d p ww (hr ww hh) hs hl
 obtain ⟨E, hE⟩ : ∃ E : Bool, E = decide (beg p.t p.pl = fin p.t p.pl) := ⟨_, rfl⟩
 have HE : qH 185 #[.agg #[.int .i64 (beg p.t p.pl), .int .i64 (fin p.t p.pl)]] (.bool E) := mLine_emp r d p hs hl E hE
 have HSp : Hid (∀ ww, Calls Tryz.prog 186 #[.int .u8 key] ww fun e w' => e = .returned (.tuple #[.int .u8 (spV key), .int .u8 (spK key)]) ∧ w' = ww) := fun ww => mSpelled key ww hk
 have hEk : E = true → ¬ key = 68 ∧ ¬ key = 67 ∧ ¬ key = 115 := by
  intro e
  rw [e] at hE
  have := of_decide_eq_true hE.symm
  exact ⟨fun h => he (Or.inl h) this, fun h => he (Or.inr (Or.inl h)) this, fun h => he (Or.inr (Or.inr h)) this⟩
 have h := hr w hA
 have b0 := h.bg.c0
 have bl := h.bg.lt
 have l1 : r < w.heap.size + 1 := by omega
 have HZ : ∀ ww, A ww → (∀ o, ww.frozen? ⟨r, o, none⟩ = false) ∧ ww.cell? ⟨r, 3, none⟩ = some (.int .u8 p.verb) ∧ ww.cell? ⟨r, 0, none⟩ = some (.pointer (some ⟨d, 0, none⟩)) ∧ r < ww.heap.size := fun ww hh => ⟨(hr ww hh).bg.fz, (hr ww hh).bg.c3, (hr ww hh).bg.c0, (hr ww hh).bg.lt⟩
 clear he hE h
 generalize spV key = V at *
 generalize spK key = Kk at *
 generalize beg p.t p.pl = LB at *
 generalize fin p.t p.pl = LE at *
 cases E with
 | true =>
  obtain ⟨k1, k2, k3⟩ := hEk rfl
  have e1 : (key == 68) = false := by simp [k1]
  have e2 : (key == 67) = false := by simp [k2]
  have e3 : (key == 115) = false := by simp [k3]
  exact qt39
 | false =>
  exact qt39
theorem eqIn_strK (d : Nat) (a b : ByteArray) (w : World) : (Op.equalIn (d + 1) 9 (.string a) (.string b)).run Tryz.prog w = .ok (a == b) w := by
 simp [Op.equalIn, run_underlying underlying9]
theorem eqIn_boolK (d : Nat) (a b : Bool) (w : World) : (Op.equalIn (d + 1) 4 (.bool a) (.bool b)).run Tryz.prog w = .ok (a == b) w := by
 simp [Op.equalIn, run_underlying underlying4]
theorem eq_stateK_in (k : Nat) (s : ByteArray) (a b c : Int) (d : Bool) (w : World) : (Op.equalIn (k + 2) 32 (.agg #[.string s, .int .i64 a, .int .i64 b, .int .i64 c, .bool d]) (.agg #[.string s, .int .i64 a, .int .i64 b, .int .i64 c, .bool d])).run Tryz.prog w = .ok true w := by
 have h1 := fun x y w => eqIn_int k x y w
 have h2 := fun x y w => eqIn_strK k x y w
 have h3 := fun x y w => eqIn_boolK k x y w
 rw [show k + 2 = (k + 1) + 1 by omega]
 rw [Op.equalIn]
 simp only [Sem.run_bind, run_underlying underlying32, Result.andThen_ok]
 simp [go_sem, part, h1, h2, h3, Std.Legacy.Range.forIn_eq_forIn_range', List.range']
 first | exact beq_self_eq_true s | (show (s.data == s.data) = true; simp) | (cases s; rfl)
theorem eq_stateK (s : ByteArray) (a b c : Int) (d : Bool) (w : World) : (Op.equal 32 (.agg #[.string s, .int .i64 a, .int .i64 b, .int .i64 c, .bool d]) (.agg #[.string s, .int .i64 a, .int .i64 b, .int .i64 c, .bool d])).run Tryz.prog w = .ok true w := eq_stateK_in 9998 s a b c d w
theorem neq_stateK (s : ByteArray) (a b c : Int) (d : Bool) (w : World) : (binOp .neq 32 (.agg #[.string s, .int .i64 a, .int .i64 b, .int .i64 c, .bool d]) (.agg #[.string s, .int .i64 a, .int .i64 b, .int .i64 c, .bool d])).run Tryz.prog w = .ok (.bool false) w := by
 have e : binOp .neq 32 (.agg #[.string s, .int .i64 a, .int .i64 b, .int .i64 c, .bool d]) (.agg #[.string s, .int .i64 a, .int .i64 b, .int .i64 c, .bool d]) = (do pure (.bool (!(← Op.equal 32 (.agg #[.string s, .int .i64 a, .int .i64 b, .int .i64 c, .bool d]) (.agg #[.string s, .int .i64 a, .int .i64 b, .int .i64 c, .bool d]))))) := rfl
 rw [e, Sem.run_bind, eq_stateK]
 rfl
def cut3 (s : ByteArray) : ByteArray := if 300 < s.size then s.extract 0 300 else s
theorem cut3_size (s : ByteArray) : (cut3 s).size ≤ 300 := by
 unfold cut3
 split
 ·rw [ByteArray.size_extract]; omega
 ·omega
theorem kUpTo (s : ByteArray) (w : World) :
  qC 16 #[.string s, .int .i64 300] w (.string (cut3 s)) := by
 unfold cut3
 by_cases h : 300 < s.size
 ·rw [if_pos h]
  have h1 : (300 : Int) < ((s.size : Nat) : Int) := by omega
  have h2 : (300 : Int) ≤ ((s.size : Nat) : Int) := by omega
  go_enter func16, ntmps16
  go_wp2
  exact qV (.string (s.extract 0 300)) (by simp [results, results16, go_sem]) rfl
 ·rw [if_neg h]
  have h1 : ¬ (300 : Int) < ((s.size : Nat) : Int) := by omega
  go_enter func16, ntmps16
  go_wp2
  exact qV (.string s) (by simp [results, results16, go_sem]) rfl
structure New7 (w W : World) (q b r d m : Nat) (t : ByteArray) : Prop where
 cq : W.cell? ⟨q, 0, none⟩ = some (.pointer (some ⟨b, 0, none⟩))
 bd : BdAt W b r d (.slice none 0 0) ⟨#[]⟩
 rd : RdAt W r d (newPg t m)
 rg : RgAt W m f0
 ly : Lay b r d m
 qb : q ≠ b
 qr : q ≠ r
 qd : q ≠ d
 qm : q ≠ m
 lq : w.heap.size ≤ q
 lb : w.heap.size ≤ b
 lr : w.heap.size ≤ r
 ld : w.heap.size ≤ d
 lm : w.heap.size ≤ m
theorem New7.below {w W W' : World} {q b r d m : Nat} {t : ByteArray} (h : New7 w W q b r d m t) (hb : Below W.heap.size W W') : New7 w W' q b r d m t :=
 ⟨memLater hb h.cq, h.bd.below hb, h.rd.below hb, h.rg.below hb, h.ly, h.qb, h.qr, h.qd, h.qm, h.lq, h.lb, h.lr, h.ld, h.lm⟩
theorem kOpened (s : ByteArray) (w : World) :
  Calls Tryz.prog 15 #[.string s] w fun e w' => ∃ q b r d m : Nat, e = .returned (.pointer (some ⟨q, 0, none⟩)) ∧ New7 w w' q b r d m (cut3 s) ∧ Below w.heap.size w w' := by
 have HU : qH 16 #[.string s, .int .i64 300] (.string (cut3 s)) := fun ww => kUpTo s ww
 have hc := cut3_size s
 generalize cut3 s = t at *
 have HN : Hid (∀ ww, Calls Tryz.prog 24 #[.string t] ww fun e w' => ∃ q b r d m : Nat, e = .returned (.tuple #[.pointer (some ⟨q, 0, none⟩), .int .i64 0]) ∧ New7 ww w' q b r d m t ∧ Below ww.heap.size ww w') := by
  intro ww
  refine Calls.mono (nNew_ok t ww qo) ?_
  rintro e w' ⟨q, b, r, d, m, rfl, h1, h2, h3, h4, h5, h6, h7, h8, h9, h10, h11, h12, h13, h14, h15, h16⟩
  have hqm : q ≠ m := by
   intro e
   subst e
   have hk : w'.cell? ⟨q, 0, none⟩ = none := by simp [World.cell?, h3]
   rw [hk] at h1
   cases h1
  exact ⟨q, b, r, d, m, rfl, ⟨h1, h2.bd, h2.rd, RgAt.new h3, ⟨h2.br, h2.bd', h12, h13, h14⟩, h9, h10, h11, hqm, h4, h6, h7, h8, h5⟩, h16⟩
 have HS : Hid (∀ ww W q b r d m, New7 ww W q b r d m t → qC 18 #[.pointer (some ⟨q, 0, none⟩)] W (.agg #[.string t, .int .i64 0, .int .i64 0, .int .i64 0, .bool false])) := fun ww W q b r d m h => nState q b r d _ _ (newPg t m) W h.cq h.bd h.rd
 have hEq := fun ww => neq_stateK t 0 0 0 false ww
 go_enter func15, ntmps15
 go_wp2_with fail
 refine Calls.mono (HU.out _) ?_
 rintro e w1 ⟨rfl, h1⟩
 have hz1 := h1.size
 (try simp at hz1)
 go_wp2_with fail
 refine Calls.mono (HN.out _) ?_
 rintro e w2 ⟨q, b, r, d, m, rfl, N2, h2⟩
 have hz2 := h2.size
 (try simp at hz2)
 go_wp2_with fail
 refine Calls.mono (HS.out _ _ q b r d m N2) ?_
 rintro e w3 ⟨rfl, h3⟩
 have N3 := N2.below h3
 have hz3 := h3.size
 (try simp at hz3)
 go_wp2_with fail
 refine Calls.mono (HU.out _) ?_
 rintro e w4 ⟨rfl, h4⟩
 have N4 := N3.below h4
 have hz4 := h4.size
 (try simp at hz4)
 go_wp2
 go_ret
 refine ⟨q, b, r, d, m, rfl, ?_, ?_⟩
 ·exact ⟨N4.cq, N4.bd, N4.rd, N4.rg, N4.ly, N4.qb, N4.qr, N4.qd, N4.qm, by have := N4.lq; omega, by have := N4.lb; omega, by have := N4.lr; omega, by have := N4.ld; omega, by have := N4.lm; omega⟩
 ·repeat exact qB
def kdw : ByteArray := ⟨#[100, 119]⟩
def ku : ByteArray := ⟨#[117]⟩
def Dw (w : World) (b r d m : Nat) (ww : World) : Prop := ∃ g cap dg, BdAt ww b r d (.slice none 0 0) dg ∧ RdAt ww r d (P3 m g cap) ∧ RgAt ww m f1 ∧ ww.ownsRow 0 130 3 (.slice (some ⟨g, 0, none⟩) 1 cap) 1 (stp k3 k7) ∧ g ≠ r ∧ g ≠ d ∧ Upd [b, r, d, m] w ww
theorem kType_dw (w0 w : World) (q b r d m : Nat) (N : New7 w0 w q b r d m k7) :
  Calls Tryz.prog 17 #[.pointer (some ⟨q, 0, none⟩), .string kdw] w fun e w' => e = .returned (.int .i64 0) ∧ Dw w b r d m w' := by
 have lb := N.bd.lt
 have lr := N.rd.bg.lt
 have ld := N.rd.dk.lt
 have lm := N.rg.lt
 refine nType q b kdw w 0 (Dw w b r d m) N.cq (fun ww hw => ?_)
 subst hw
 refine Calls.mono (bType_none b kdw (fun k ww' => match k with
  | 0 => ww' = ww
  | 1 => RdAt ww' r d (P1 m) ∧ RgAt ww' m f0 ∧ ∃ tv, BdAt ww' b r d tv ⟨#[]⟩ ∧ ww'.ownsRow 0 5 1 tv 1 ([100].map (Value.int .u8)) ∧ (∀ k, tv.ownBlock = some k → ww.heap.size ≤ k) ∧ Upd [b, r, d, m] ww ww'
  | _ => Dw ww b r d m ww') ww rfl qd ?_) ?_
 ·intro k hk w1 hI
  have hk2 : k = 0 ∨ k = 1 := by
   have : kdw.size = 2 := by decide
   omega
  rcases hk2 with rfl | rfl
  ·have hI' : w1 = ww := hI
   subst hI'
   refine Calls.mono (known_d b r d m ⟨#[]⟩ w1 N.ly N.bd N.rd N.rg) ?_
   rintro e w' ⟨rfl, h1, h2, tv, h3, h4, h5, h6⟩
   exact ⟨0, rfl, by decide, h1, h2, tv, h3, h4, h5, h6.mono qi⟩
  ·obtain ⟨h1, h2, tv, h3, h4, h5, h6⟩ := hI
   have ne : ∀ x, x < ww.heap.size → tv.ownBlock ≠ some x := fun x hx e => by have := h5 x e; omega
   refine Calls.mono (known_w b r d m ⟨#[]⟩ tv w1 N.ly h3 h1 h2 h4 (ne b lb) (ne r lr) (ne d ld) (ne m lm)) ?_
   rintro e w' ⟨rfl, g, cap, dg', k1, k2, k3', k4', k5, k6⟩
   have z := h6.size
   refine ⟨2, rfl, by decide, g, cap, dg', k1, k2, k3', k4', by omega, by omega, ?_⟩
   refine updMore h6 k6 ?_
   intro x hx
   simp only [List.mem_cons, List.mem_append, List.append_nil, mem_own, List.not_mem_nil, or_false] at hx ⊢
   rcases hx with hx | hx | hx | hx
   ·simp [hx]
   ·simp [hx]
   ·rcases hx with hx | hx | hx <;> simp [hx]
   ·exact Or.inr (h5 x hx)
 ·rintro e w' ⟨rfl, h⟩
  exact ⟨rfl, h⟩
theorem kType_u (w v : World) (q b r d m : Nat) (L : Lay b r d m) (hq : v.cell? ⟨q, 0, none⟩ = some (.pointer (some ⟨b, 0, none⟩))) (h : Dw w b r d m v) :
  Calls Tryz.prog 17 #[.pointer (some ⟨q, 0, none⟩), .string ku] v fun e w' => e = .returned (.int .i64 0) ∧ (∃ dg, BdAt w' b r d (.slice none 0 0) dg) ∧ Back7 r d m w' ∧ Upd [b, r, d] v w' := by
 obtain ⟨g, cap, dg, h1, h2, h3, h4, h5, h6, h7⟩ := h
 refine nType q b ku v 0 (fun w' => (∃ dg, BdAt w' b r d (.slice none 0 0) dg) ∧ Back7 r d m w' ∧ Upd [b, r, d] v w') hq (fun ww hw => ?_)
 subst hw
 refine Calls.mono (bType_none b ku (fun k ww' => match k with
  | 0 => ww' = ww
  | _ => (∃ dg, BdAt ww' b r d (.slice none 0 0) dg) ∧ Back7 r d m ww' ∧ Upd [b, r, d] ww ww') ww rfl qd ?_) ?_
 ·intro k hk w1 hI
  have hk2 : k = 0 := by
   have : ku.size = 1 := by decide
   omega
  subst hk2
  have hI' : w1 = ww := hI
  subst hI'
  refine Calls.mono (known_u b r d m g cap dg w1 L h1 h2 h3 h4 h5 h6) ?_
  rintro e w' ⟨rfl, k1, k2, k3⟩
  exact ⟨1, rfl, by decide, ⟨dg, k1⟩, k2, k3⟩
 ·rintro e w' ⟨rfl, h⟩
  exact ⟨rfl, h⟩
theorem below_of_upd {S : List Nat} {n : Nat} {w w' : World} (h : Upd S w w') (hn : n ≤ w.heap.size) (hs : ∀ x, x ∈ S → n ≤ x) : Below n w w' :=
 ⟨h.os, h.tape, h.output, h.size, fun k hk => h.block k qo (fun hm => by have := hs k hm; omega)⟩
theorem Dw.below {w v v' : World} {b r d m : Nat} (h : Dw w b r d m v) (hb : Below v.heap.size v v') : Dw w b r d m v' := by
 obtain ⟨g, cap, dg, h1, h2, h3, h4, h5, h6, h7⟩ := h
 exact ⟨g, cap, dg, h1.below hb, h2.below hb, h3.below hb, ownsRow_upd h4 (Upd.of_below (S := []) hb) qi, h5, h6, Upd.below h7 hb⟩
theorem kKnown (w : World) : qC 14 #[] w (.bool true) := by
 have HO : Hid (∀ ww, Calls Tryz.prog 15 #[.string k7] ww fun e w' => ∃ q b r d m : Nat, e = .returned (.pointer (some ⟨q, 0, none⟩)) ∧ New7 ww w' q b r d m k7 ∧ Below ww.heap.size ww w') := fun ww => kOpened k7 ww
 go_enter func14, ntmps14
 go_wp2_with fail
 refine Calls.mono (HO.out _) ?_
 rintro e w1 ⟨q, b, r, d, m, rfl, N1, h1⟩
 have z1 := h1.size
 go_wp2_with fail
 refine Calls.mono (kType_dw w w1 q b r d m N1) ?_
 rintro e w2 ⟨rfl, D2⟩
 obtain ⟨g, cap, dg, d1, d2, d3, d4, d5, d6, u2⟩ := D2
 have D2 : Dw w1 b r d m w2 := ⟨g, cap, dg, d1, d2, d3, d4, d5, d6, u2⟩
 have q2 : w2.cell? ⟨q, 0, none⟩ = some (.pointer (some ⟨b, 0, none⟩)) := u2.was N1.cq (by simp [N1.qb, N1.qr, N1.qd, N1.qm])
 have B2 : Below w.heap.size w w2 := (h1.trans (below_of_upd u2 z1 (by intro x hx; simp at hx; rcases hx with hx | hx | hx | hx <;> (rw [hx]; first | exact N1.lb | exact N1.lr | exact N1.ld | exact N1.lm))))
 have z2 := u2.size
 have HS2 : Hid (∀ ww, ww = w2 → Calls Tryz.prog 18 #[.pointer (some ⟨q, 0, none⟩)] ww fun e w' => ∃ a c o : Int, ∃ l, e = .returned (.agg #[.string k3, .int .i64 a, .int .i64 c, .int .i64 o, .bool l]) ∧ Below ww.heap.size ww w') := by
  intro ww hw
  subst hw
  refine Calls.mono (nState q b r d _ dg (P3 m g cap) ww q2 d1 d2) ?_
  rintro e w' ⟨rfl, h⟩
  exact ⟨_, _, _, _, rfl, h⟩
 clear d1 d2 d3 d4 d5 d6 u2 h1
 go_wp2_with fail
 refine Calls.mono (HS2.out _ rfl) ?_
 rintro e w3 ⟨a, c, o, l, rfl, h3⟩
 have z3 := h3.size
 have lb := N1.bd.lt
 have lr := N1.rd.bg.lt
 have ld := N1.rd.dk.lt
 have lm := N1.rg.lt
 have lq : q < w2.heap.size := World.block_lt_of_cell? w2 ⟨q, 0, none⟩ q2
 have D3 := D2.below h3
 have q3 := memLater h3 q2
 clear HS2 HO
 have D4 := D3.below ((Below.refl _ w3).alloc (Nat.le_refl _) (.cells #[.string k3, .int .i64 a, .int .i64 c, .int .i64 o, .bool l] 32))
 have q4 := memLater ((Below.refl _ w3).alloc (Nat.le_refl _) (.cells #[.string k3, .int .i64 a, .int .i64 c, .int .i64 o, .bool l] 32)) q3
 have s4 : (w3.alloc (.cells #[.string k3, .int .i64 a, .int .i64 c, .int .i64 o, .bool l] 32)).cell? ⟨w3.heap.size, 0, none⟩ = some (.string k3) := by simp
 have z4 : (w3.alloc (.cells #[.string k3, .int .i64 a, .int .i64 c, .int .i64 o, .bool l] 32)).heap.size = w3.heap.size + 1 := by simp
 have B4 : Below w.heap.size w (w3.alloc (.cells #[.string k3, .int .i64 a, .int .i64 c, .int .i64 o, .bool l] 32)) := by
  repeat exact qB
 go_wp2_with fail
 generalize (w3.alloc (.cells #[.string k3, .int .i64 a, .int .i64 c, .int .i64 o, .bool l] 32)) = v4 at *
 generalize w3.heap.size = S3 at *
 refine Calls.mono (kType_u w1 v4 q b r d m N1.ly q4 D4) ?_
 rintro e w5 ⟨rfl, ⟨dg5, b5⟩, ⟨p5, r5, t5, _, _, m5, g5⟩, u5⟩
 have z5 := u5.size
 have q5 := u5.was q4 (by simp [N1.qb, N1.qr, N1.qd])
 have s5 := u5.was s4 qs
 have B5 : Below w.heap.size w w5 := B4.trans (below_of_upd u5 qo (by intro x hx; simp at hx; rcases hx with hx | hx | hx <;> (rw [hx]; first | exact N1.lb | exact N1.lr | exact N1.ld)))
 have HS5 : Hid (∀ ww, ww = w5 → Calls Tryz.prog 18 #[.pointer (some ⟨q, 0, none⟩)] ww fun e w' => ∃ a c o : Int, ∃ l, e = .returned (.agg #[.string k7, .int .i64 a, .int .i64 c, .int .i64 o, .bool l]) ∧ Below ww.heap.size ww w') := by
  intro ww hw
  subst hw
  refine Calls.mono (nState q b r d _ dg5 p5 ww q5 b5 r5) ?_
  rintro e w' ⟨rfl, h⟩
  rw [t5]
  exact ⟨_, _, _, _, rfl, h⟩
 have hf34 : f1 34 = .agg #[.string k4, .bool false] := rfl
 clear u5 D4 D3 D2 s4 q4 q3 q2 B4 B2 h3
 go_wp2_with fail
 refine Calls.mono (HS5.out _ rfl) ?_
 rintro e w6 ⟨a6, c6, o6, l6, rfl, h6⟩
 have z6 := h6.size
 have b6 := b5.below h6
 have r6 := r5.below h6
 have g6 := g5.below h6
 have q6 := memLater h6 q5
 have s6 := memLater h6 s5
 have B6 : Below w.heap.size w w6 := by
  repeat exact qB
 clear HS5 b5 r5 g5 q5 s5 B5 h6
 have al := (Below.refl _ w6).alloc (Nat.le_refl _) (.cells #[.string k7, .int .i64 a6, .int .i64 c6, .int .i64 o6, .bool l6] 32)
 have b7 := b6.below al
 have r7 := r6.below al
 have g7 := g6.below al
 have q7 := memLater al q6
 have s7 := memLater al s6
 have t7 : (w6.alloc (.cells #[.string k7, .int .i64 a6, .int .i64 c6, .int .i64 o6, .bool l6] 32)).cell? ⟨w6.heap.size, 0, none⟩ = some (.string k7) := by simp
 have z7 : (w6.alloc (.cells #[.string k7, .int .i64 a6, .int .i64 c6, .int .i64 o6, .bool l6] 32)).heap.size = w6.heap.size + 1 := by simp
 have B7 : Below w.heap.size w (w6.alloc (.cells #[.string k7, .int .i64 a6, .int .i64 c6, .int .i64 o6, .bool l6] 32)) := by
  repeat exact qB
 go_wp2_with fail
 generalize (w6.alloc (.cells #[.string k7, .int .i64 a6, .int .i64 c6, .int .i64 o6, .bool l6] 32)) = v7 at *
 generalize w6.heap.size = S6 at *
 refine Calls.mono (nRegister_at q b r d m _ dg5 p5 34 f1 k4 false v7 q7 b7 r7 m5 g7 hf34) ?_
 rintro e w8 ⟨rfl, h8⟩
 have s8 := memLater h8 s7
 have t8 := memLater h8 t7
 have B8 : Below w.heap.size w w8 := by
  repeat exact qB
 have x3 : (k3.toList == [116, 119, 111]) = true := by rw [ByteArray.toList_eq]; decide
 have x7 : (k7.toList == [111, 110, 101, 32, 116, 119, 111]) = true := by rw [ByteArray.toList_eq]; decide
 have x4 : (k4.toList == [111, 110, 101, 32]) = true := by rw [ByteArray.toList_eq]; decide
 clear b6 r6 g6 q6 s6 b7 r7 g7 q7 s7 t7 B6 B7 al h8
 go_wp2
 go_ret
 exact ⟨rfl, B8⟩
