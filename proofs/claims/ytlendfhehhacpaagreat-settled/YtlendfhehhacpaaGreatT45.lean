/- A part. -/
import Derived.Test.YtlendfhehhacpaaGreatT34
import Derived.Test.YtlendfhehhacpaaGreatT37
set_option linter.unusedVariables false
set_option linter.unusedSimpArgs false
set_option maxRecDepth 100000
set_option maxHeartbeats 8000000
namespace Go.Proofs.YtlendfhehhacpaaGreat
open Go.RowKit Nib Tryz
theorem qt64 {P : Prop} (h : P := by
  have H := hr w hA
  have b0 := H.bg.c0
  have bl := H.bg.lt
  have l1 : r < w.heap.size + 1 := by omega
  rcases hk with hk
  all_goals
   subst hk
   go_enter func141, ntmps141
   go_wp2_with fail
   refine Calls.mono (HC.out _ (fA _ _ hA qB)) ?_
   rintro e w2 ⟨rfl, h2, u2⟩
   go_wp2
   go_ret
   refine ⟨rfl, ?_, ?_⟩
   ·exact (fB _ _ h2 qB)
   ·repeat exact qU
 ) : P := h
theorem mCommand_lead (r d : Nat) (p : Pg) (key O : Int) (A B : World → Prop) (T : List Nat) (w : World) (hA : A w) (fA : Firm A) (fB : Firm B) (hr : HasR A r d p) (hk : key = 34)
  (HC : GivesB 149 #[.pointer (some ⟨r, 1, none⟩)] A B O T) :
  Calls Tryz.prog 141 #[.agg #[.pointer (some ⟨r, 0, none⟩)], .int .u8 key] w fun e w' => e = .returned (.int .i64 O) ∧ B w' ∧ Upd T w w' := by
 exact qt64
theorem mCommand_toVerb (r d : Nat) (p : Pg) (key O : Int) (A B : World → Prop) (T : List Nat) (w : World) (hA : A w) (fA : Firm A) (fB : Firm B) (hr : HasR A r d p) (hk : key = 100 ∨ key = 99 ∨ key = 121 ∨ key = 62 ∨ key = 60)
  (HC : GivesB 143 #[.agg #[.pointer (some ⟨r, 0, none⟩)], .int .u8 key] A B O T) :
  Calls Tryz.prog 141 #[.agg #[.pointer (some ⟨r, 0, none⟩)], .int .u8 key] w fun e w' => e = .returned (.int .i64 O) ∧ B w' ∧ Upd T w w' := by
 have H := hr w hA
 have b0 := H.bg.c0
 have bl := H.bg.lt
 have l1 : r < w.heap.size + 1 := by omega
 rcases hk with hk | hk | hk | hk | hk
 all_goals
  subst hk
  go_enter func141, ntmps141
  go_wp2_with fail
  refine Calls.mono (HC.out _ (fA _ _ hA qB)) ?_
  rintro e w2 ⟨rfl, h2, u2⟩
  go_wp2
  go_ret
  refine ⟨rfl, ?_, ?_⟩
  ·exact (fB _ _ h2 qB)
  ·repeat exact qU
theorem mCommand_r (r d : Nat) (p : Pg) (key O : Int) (A B : World → Prop) (T : List Nat) (w : World) (hA : A w) (fA : Firm A) (fB : Firm B) (hr : HasR A r d p) (hk : key = 114)
  (HC : GivesB 142 #[.pointer (some ⟨r, 1, none⟩), .int .u8 key] A B O T) :
  Calls Tryz.prog 141 #[.agg #[.pointer (some ⟨r, 0, none⟩)], .int .u8 key] w fun e w' => e = .returned (.int .i64 O) ∧ B w' ∧ Upd T w w' := by
 exact qt64
theorem mCommand_short (r d : Nat) (p : Pg) (key O : Int) (A B : World → Prop) (T : List Nat) (w : World) (hA : A w) (fA : Firm A) (fB : Firm B) (hr : HasR A r d p) (hk : key = 120 ∨ key = 88 ∨ key = 68 ∨ key = 67 ∨ key = 115 ∨ key = 83 ∨ key = 89)
  (HC : GivesB 151 #[.agg #[.pointer (some ⟨r, 0, none⟩)], .int .u8 key] A B O T) :
  Calls Tryz.prog 141 #[.agg #[.pointer (some ⟨r, 0, none⟩)], .int .u8 key] w fun e w' => e = .returned (.int .i64 O) ∧ B w' ∧ Upd T w w' := by
 have H := hr w hA
 have b0 := H.bg.c0
 have bl := H.bg.lt
 have l1 : r < w.heap.size + 1 := by omega
 rcases hk with hk | hk | hk | hk | hk | hk | hk
 all_goals
  subst hk
  go_enter func141, ntmps141
  go_wp2_with fail
  refine Calls.mono (HC.out _ (fA _ _ hA qB)) ?_
  rintro e w2 ⟨rfl, h2, u2⟩
  go_wp2
  go_ret
  refine ⟨rfl, ?_, ?_⟩
  ·exact (fB _ _ h2 qB)
  ·repeat exact qU
theorem mCommand_begin (r d : Nat) (p : Pg) (key O : Int) (A B : World → Prop) (T : List Nat) (w : World) (hA : A w) (fA : Firm A) (fB : Firm B) (hr : HasR A r d p) (hk : key = 105 ∨ key = 97 ∨ key = 73 ∨ key = 65)
  (HC : GivesB 152 #[.agg #[.pointer (some ⟨r, 0, none⟩)], .int .u8 key] A B O T) :
  Calls Tryz.prog 141 #[.agg #[.pointer (some ⟨r, 0, none⟩)], .int .u8 key] w fun e w' => e = .returned (.int .i64 O) ∧ B w' ∧ Upd T w w' := by
 have H := hr w hA
 have b0 := H.bg.c0
 have bl := H.bg.lt
 have l1 : r < w.heap.size + 1 := by omega
 rcases hk with hk | hk | hk | hk
 all_goals
  subst hk
  go_enter func141, ntmps141
  go_wp2_with fail
  refine Calls.mono (HC.out _ (fA _ _ hA qB)) ?_
  rintro e w2 ⟨rfl, h2, u2⟩
  go_wp2
  go_ret
  refine ⟨rfl, ?_, ?_⟩
  ·exact (fB _ _ h2 qB)
  ·repeat exact qU
theorem qt63 {P : Prop} (h : P := by
  have H := hr w hA
  have b0 := H.bg.c0
  have bl := H.bg.lt
  have l1 : r < w.heap.size + 1 := by omega
  rcases hk with hk | hk
  all_goals
   subst hk
   go_enter func141, ntmps141
   go_wp2_with fail
   refine Calls.mono (HC.out _ (fA _ _ hA qB)) ?_
   rintro e w2 ⟨rfl, h2, u2⟩
   go_wp2
   go_ret
   refine ⟨rfl, ?_, ?_⟩
   ·exact (fB _ _ h2 qB)
   ·repeat exact qU
 ) : P := h
theorem mCommand_open (r d : Nat) (p : Pg) (key O : Int) (A B : World → Prop) (T : List Nat) (w : World) (hA : A w) (fA : Firm A) (fB : Firm B) (hr : HasR A r d p) (hk : key = 111 ∨ key = 79)
  (HC : GivesB 153 #[.agg #[.pointer (some ⟨r, 0, none⟩)], .int .u8 key] A B O T) :
  Calls Tryz.prog 141 #[.agg #[.pointer (some ⟨r, 0, none⟩)], .int .u8 key] w fun e w' => e = .returned (.int .i64 O) ∧ B w' ∧ Upd T w w' := by
 exact qt63
theorem mCommand_lay (r d : Nat) (p : Pg) (key O : Int) (A B : World → Prop) (T : List Nat) (w : World) (hA : A w) (fA : Firm A) (fB : Firm B) (hr : HasR A r d p) (hk : key = 112 ∨ key = 80)
  (HC : GivesB 154 #[.agg #[.pointer (some ⟨r, 0, none⟩)], .int .u8 key] A B O T) :
  Calls Tryz.prog 141 #[.agg #[.pointer (some ⟨r, 0, none⟩)], .int .u8 key] w fun e w' => e = .returned (.int .i64 O) ∧ B w' ∧ Upd T w w' := by
 exact qt63
theorem mCommand_dot (r : Nat) (w : World) :
  qC 141 #[.agg #[.pointer (some ⟨r, 0, none⟩)], .int .u8 46] w (.int .i64 3) := by
 go_enter func141, ntmps141
 go_wp2
 go_ret
 refine ⟨rfl, ?_⟩
 repeat exact qB
theorem mCommand_turn (r d : Nat) (p : Pg) (O : Int) (X : ByteArray) (q : Int) (is : Bool) (A B : World → Prop) (T : List Nat) (w : World) (hA : A w) (fA : Firm A) (fB : Firm B) (hr : HasR A r d p) (hTl : ∀ k, k ∈ T → k < w.heap.size)
  (HS : Hid (∀ ww, A ww → qC 156 #[.agg #[.pointer (some ⟨r, 0, none⟩)]] ww (.agg #[.string p.t, .int .i64 p.pl, .int .i64 (max (cnt p) 1 : Nat)])))
  (HX : qH 157 #[.agg #[.string p.t, .int .i64 p.pl, .int .i64 (max (cnt p) 1 : Nat)]] (.tuple #[.string X, .int .i64 q, .bool is]))
  (HE : GivesB 155 #[.agg #[.pointer (some ⟨r, 0, none⟩)], .string X, .int .i64 q, .bool is] A B O T) :
  Calls Tryz.prog 141 #[.agg #[.pointer (some ⟨r, 0, none⟩)], .int .u8 126] w fun e w' => e = .returned (.int .i64 O) ∧ B w' ∧ Upd T w w' := by
 have hTw : w.heap.size ∉ T := fun hk => by have := hTl _ hk; omega
 generalize max (cnt p) 1 = N at *
 go_enter func141, ntmps141
 have g0 : (w.alloc (.cells #[.pointer (some ⟨r, 0, none⟩)] 77)).cell? ⟨w.heap.size, 0, none⟩ = some (.pointer (some ⟨r, 0, none⟩)) := by simp
 go_wp2_with fail
 go_region_held3 (fun ww => ww.cell? ⟨w.heap.size, 0, none⟩ = some (.pointer (some ⟨r, 0, none⟩))) ((first | (go_simp; done) | ((repeat exact qM); done))) (first | (go_at_call 156; refine Calls.mono (HS.out _ (fA _ _ hA qB)) ?_; rintro r1 w1 ⟨rfl, h1⟩; have hz1 := h1.size; (try simp at hz1); (try have ⟨hl1_0, hk1_0⟩ := qL w.heap.size w1.heap.size)) | (go_at_call 157; refine Calls.mono (HX.out _) ?_; rintro r2 w2 ⟨rfl, h2⟩; have hz2 := h2.size; (try simp at hz2); (try have ⟨hl2_0, hk2_0⟩ := qL w.heap.size w2.heap.size)) | (go_at_call 155; refine Calls.mono (HE.out _ (fA _ _ hA qB)) ?_; rintro r3 w3 ⟨rfl, h3, u3⟩; have hz3 := u3.size; (try simp at hz3); have a1 := u3.was (b := w.heap.size) (o := 0) (v := .pointer (some ⟨r, 0, none⟩)) qM hTw))
 exact qt61
theorem mCommand_join (r d : Nat) (p : Pg) (O : Int) (X : ByteArray) (q : Int) (is : Bool) (A B : World → Prop) (T : List Nat) (w : World) (hA : A w) (fA : Firm A) (fB : Firm B) (hr : HasR A r d p) (hTl : ∀ k, k ∈ T → k < w.heap.size)
  (HS : Hid (∀ ww, A ww → qC 156 #[.agg #[.pointer (some ⟨r, 0, none⟩)]] ww (.agg #[.string p.t, .int .i64 p.pl, .int .i64 (max (cnt p) 1 : Nat)])))
  (HX : qH 158 #[.agg #[.string p.t, .int .i64 p.pl, .int .i64 (max (cnt p) 1 : Nat)]] (.tuple #[.string X, .int .i64 q, .bool is]))
  (HE : GivesB 155 #[.agg #[.pointer (some ⟨r, 0, none⟩)], .string X, .int .i64 q, .bool is] A B O T) :
  Calls Tryz.prog 141 #[.agg #[.pointer (some ⟨r, 0, none⟩)], .int .u8 74] w fun e w' => e = .returned (.int .i64 O) ∧ B w' ∧ Upd T w w' := by
 have hTw : w.heap.size ∉ T := fun hk => by have := hTl _ hk; omega
 generalize max (cnt p) 1 = N at *
 go_enter func141, ntmps141
 have g0 : (w.alloc (.cells #[.pointer (some ⟨r, 0, none⟩)] 77)).cell? ⟨w.heap.size, 0, none⟩ = some (.pointer (some ⟨r, 0, none⟩)) := by simp
 go_wp2_with fail
 go_region_held3 (fun ww => ww.cell? ⟨w.heap.size, 0, none⟩ = some (.pointer (some ⟨r, 0, none⟩))) ((first | (go_simp; done) | ((repeat exact qM); done))) (first | (go_at_call 156; refine Calls.mono (HS.out _ (fA _ _ hA qB)) ?_; rintro r1 w1 ⟨rfl, h1⟩; have hz1 := h1.size; (try simp at hz1); (try have ⟨hl1_0, hk1_0⟩ := qL w.heap.size w1.heap.size)) | (go_at_call 158; refine Calls.mono (HX.out _) ?_; rintro r2 w2 ⟨rfl, h2⟩; have hz2 := h2.size; (try simp at hz2); (try have ⟨hl2_0, hk2_0⟩ := qL w.heap.size w2.heap.size)) | (go_at_call 155; refine Calls.mono (HE.out _ (fA _ _ hA qB)) ?_; rintro r3 w3 ⟨rfl, h3, u3⟩; have hz3 := u3.size; (try simp at hz3); have a1 := u3.was (b := w.heap.size) (o := 0) (v := .pointer (some ⟨r, 0, none⟩)) qM hTw))
 exact qt61
theorem mOn_insert (b r d : Nat) (tv : Value) (dg : ByteArray) (p : Pg) (w : World) (hb : BdAt w b r d tv dg) (h : RdAt w r d p) (hm : p.mode = 1) :
  qC 64 #[.pointer (some ⟨b, 0, none⟩)] w (.iface 80 (.agg #[.pointer (some ⟨d, 0, none⟩)])) := by
 obtain ⟨b0, b1, b2, b3, b4, b5, bz, bl⟩ := hb
 have c0 := h.bg.c0
 have c3 := h.dk.c3
 have h1 : (p.mode == 0) = false := by rw [hm]; decide
 have h2 : (p.mode == 1) = true := by rw [hm]; decide
 clear h hm
 go_enter func64, ntmps64
 go_wp2
 exact qV (.iface 80 (.agg #[.pointer (some ⟨d, 0, none⟩)])) (by simp [results, results64, go_sem]) rfl
theorem bTake_insert (b r d : Nat) (tv : Value) (dg : ByteArray) (p : Pg) (c : UInt8) (w : World) (hb : BdAt w b r d tv dg) (h : RdAt w r d p) (hm : p.mode = 1) (hk : ¬ (c.toNat : Int) = 27) (hbr : b ≠ r) (hbd : b ≠ d) (hs : p.t.size ≤ 1000) (hl : p.pl ≤ p.t.size) :
  Calls Tryz.prog 46 #[.pointer (some ⟨b, 0, none⟩), .int .u8 c.toNat] w fun e w' => e = .returned (.int .i64 1) ∧ RdAt w' r d (insP p c).none' ∧ Upd [r, d] w w' := by
 have HO : Hid (∀ ww, BdAt ww b r d tv dg → RdAt ww r d p → qC 64 #[.pointer (some ⟨b, 0, none⟩)] ww (.iface 80 (.agg #[.pointer (some ⟨d, 0, none⟩)]))) := fun ww h1 h2 => mOn_insert b r d tv dg p ww h1 h2 hm
 have HC : Hid (∀ ww, RdAt ww r d p → Calls Tryz.prog 305 #[.agg #[.pointer (some ⟨d, 0, none⟩)], .int .u8 c.toNat] ww fun e w' => e = .returned (.int .i64 1) ∧ RdAt w' r d (insP p c) ∧ Upd [d] ww w') := fun ww hh => iTake r d p c ww hh hs hl
 generalize insP p c = p2 at *
 have HF : Hid (∀ ww, RdAt ww r d p2 → Calls Tryz.prog 65 #[.pointer (some ⟨r, 1, none⟩)] ww fun e w' => e = .returned (.tuple #[]) ∧ RdAt w' r d p2.none' ∧ Upd [r] ww w') := fun ww hh => mForget r d p2 ww hh
 generalize p2.none' = p3 at *
 have H := h
 generalize (c.toNat : Int) = key at *
 have hk' : (key == 27) = false := by simp [hk]
 have hmt := meth_insert_take ⟨d, 0, none⟩
 clear hm hk h
 go_enter func46, ntmps46
 go_wp2_with fail
 refine Calls.mono (HO.out _ hb H) ?_
 rintro e w1 ⟨rfl, h1⟩
 go_wp2_with fail
 refine Calls.mono (HC.out _ qRd) ?_
 rintro e w2 ⟨rfl, h2, u2⟩
 have B2 := (hb.below h1).upd u2 (by simp [hbd])
 have e0 := B2.c0
 have g0 := h2.bg.c0
 go_wp2_with fail
 refine Calls.mono (HF.out _ qRd) ?_
 rintro e w3 ⟨rfl, h3, u3⟩
 go_wp2
 go_ret
 refine ⟨rfl, ?_, ?_⟩
 ·repeat exact qRd
 ·refine Upd.trans (S := [r, d]) ?_ (Upd.mono u3 qi)
  refine Upd.trans (S := [r, d]) ?_ (Upd.mono u2 qi)
  exact Upd.of_below h1
theorem bTake_insert_esc (b r d : Nat) (tv : Value) (dg : ByteArray) (p : Pg) (w : World) (hb : BdAt w b r d tv dg) (h : RdAt w r d p) (hm : p.mode = 1) (hs : p.t.size ≤ 1000) (hl : p.pl ≤ p.t.size) :
  Calls Tryz.prog 46 #[.pointer (some ⟨b, 0, none⟩), .int .u8 27] w fun e w' => e = .returned (.int .i64 2) ∧ RdAt w' r d { p with pl := escPl p, mode := 0, anchor := 0 } ∧ Upd [r, d] w w' := by
 have HO : Hid (∀ ww, BdAt ww b r d tv dg → RdAt ww r d p → qC 64 #[.pointer (some ⟨b, 0, none⟩)] ww (.iface 80 (.agg #[.pointer (some ⟨d, 0, none⟩)]))) := fun ww h1 h2 => mOn_insert b r d tv dg p ww h1 h2 hm
 have HE : Hid (∀ ww, RdAt ww r d p → Calls Tryz.prog 304 #[.agg #[.pointer (some ⟨d, 0, none⟩)]] ww fun e w' => e = .returned (.int .i64 2) ∧ RdAt w' r d { p with pl := escPl p, mode := 0, anchor := 0 } ∧ Upd [d] ww w') := fun ww hh => iEscape r d p ww hh hs hl
 generalize hp2 : ({ p with pl := escPl p, mode := 0, anchor := 0 } : Pg) = p2 at *
 have H := h
 have hmt := meth_insert_escape ⟨d, 0, none⟩
 clear hm h hp2
 go_enter func46, ntmps46
 go_wp2_with fail
 refine Calls.mono (HO.out _ hb H) ?_
 rintro e w1 ⟨rfl, h1⟩
 go_wp2_with fail
 refine Calls.mono (HE.out _ qRd) ?_
 rintro e w2 ⟨rfl, h2, u2⟩
 go_wp2
 go_ret
 refine ⟨rfl, ?_, ?_⟩
 ·repeat exact qRd
 ·refine Upd.trans (S := [r, d]) ?_ (Upd.mono u2 qi)
  exact Upd.of_below h1
theorem bTake_again (b r d : Nat) (tv : Value) (dg : ByteArray) (p : Pg) (key : Int) (A C : World → Prop) (D : Int → World → Prop) (w : World) (hb : BdAt w b r d tv dg) (hA : A w) (fA : Firm A) (fC : Firm C) (hr : HasR A r d p) (hm : p.mode = 0) (hk : ¬ key = 27)
  (HC : Hid (∀ ww, A ww → qC 137 #[.agg #[.pointer (some ⟨r, 0, none⟩)], .int .u8 key] ww (.int .i64 3)))
  (HF : Hid (∀ ww, A ww → Calls Tryz.prog 65 #[.pointer (some ⟨r, 1, none⟩)] ww fun e w' => e = .returned (.tuple #[]) ∧ C w'))
  (HR : Hid (∀ ww, C ww → Calls Tryz.prog 66 #[.pointer (some ⟨b, 0, none⟩)] ww fun e w' => ∃ O : Int, e = .returned (.int .i64 O) ∧ D O w')) :
  Calls Tryz.prog 46 #[.pointer (some ⟨b, 0, none⟩), .int .u8 key] w fun e w' => ∃ O : Int, e = .returned (.int .i64 O) ∧ D O w' := by
 have HO : Hid (∀ ww, BdAt ww b r d tv dg → RdAt ww r d p → qC 64 #[.pointer (some ⟨b, 0, none⟩)] ww (.iface 77 (.agg #[.pointer (some ⟨r, 0, none⟩)]))) := fun ww h1 h2 => mOn_normal b r d tv dg p ww h1 h2 hm
 have H := hr w hA
 have hk' : (key == 27) = false := by simp [hk]
 have hmt := meth_normal_take ⟨r, 0, none⟩
 clear hm hk
 go_enter func46, ntmps46
 go_wp2_with fail
 refine Calls.mono (HO.out _ hb H) ?_
 rintro e w1 ⟨rfl, h1⟩
 go_wp2_with fail
 refine Calls.mono (HC.out _ (fA _ _ hA qB)) ?_
 rintro e w2 ⟨rfl, h2⟩
 have B2 := (hb.below h1).below h2
 have R2 := (H.below h1).below h2
 have e0 := B2.c0
 have g0 := R2.bg.c0
 have gl := R2.bg.lt
 have A2 : A w2 := fA _ _ (fA _ _ hA h1) h2
 go_wp2_with fail
 refine Calls.mono (HF.out _ A2) ?_
 rintro e w3 ⟨rfl, h3⟩
 have HC3 : Hid (C w3) := h3
 clear h3
 go_wp2_with fail
 refine Calls.mono (HR.out _ HC3.out) ?_
 rintro e w4 ⟨O, rfl, h4⟩
 have HD4 : Hid (D O w4) := h4
 clear h4
 go_wp2
 go_ret
 exact ⟨O, rfl, HD4.out⟩
theorem bRepeat_none (b r d : Nat) (tv : Value) (w : World) (hb : BdAt w b r d tv ⟨#[]⟩) :
  qC 66 #[.pointer (some ⟨b, 0, none⟩)] w (.int .i64 4) := by
 obtain ⟨b0, b1, b2, b3, b4, b5, bz, bl⟩ := hb
 go_enter func66, ntmps66
 go_wp2
 go_ret
 exact ⟨rfl, Below.refl _ _⟩
theorem bRepeat (b r d : Nat) (dg : ByteArray) (I : Nat → World → Prop) (F : World → Prop) (w : World) (h : I 0 w) (hs : dg.size ≤ 17592186044416) (hne : 0 < dg.size)
  (HB : ∀ k ww, I k ww → ∃ tv, BdAt ww b r d tv dg)
  (HK : ∀ k, (hk : k < dg.size) → ∀ ww, I k ww → Calls Tryz.prog 46 #[.pointer (some ⟨b, 0, none⟩), .int .u8 (dg[k]'hk).toNat] ww fun e w' => ∃ O : Int, e = .returned (.int .i64 O) ∧ (O = 4 → F w') ∧ (¬ O = 4 → I (k + 1) w')) :
  Calls Tryz.prog 66 #[.pointer (some ⟨b, 0, none⟩)] w fun e w' => (e = .returned (.int .i64 4) ∧ F w') ∨ (e = .returned (.int .i64 1) ∧ I dg.size w') := by
 have HK' : Hid (∀ k, (hk : k < dg.size) → ∀ ww, I k ww → Calls Tryz.prog 46 #[.pointer (some ⟨b, 0, none⟩), .int .u8 (dg[k]'hk).toNat] ww fun e w' => ∃ O : Int, e = .returned (.int .i64 O) ∧ (O = 4 → F w') ∧ (¬ O = 4 → I (k + 1) w')) := HK
 have HB' : Hid (∀ k ww, I k ww → ∃ tv, BdAt ww b r d tv dg) := HB
 clear HK HB
 obtain ⟨tv, B0⟩ := HB'.out 0 w h
 have b2 := B0.c2
 have bl := B0.lt
 have hE : (dg.toList == []) = false := by
  rw [beq_eq_false_iff_ne, ByteArray.toList_eq]
  intro e
  have : dg.data.toList.length = 0 := by rw [e]; rfl
  have h2 : dg.data.toList.length = dg.size := by simp
  omega
 clear hne
 go_enter func66, ntmps66
 go_wp2
 go_loopw [16] (fun i wr => ∃ k : Nat, k ≤ dg.size ∧ i = .int .i64 k ∧ I k wr) (fun i _ => dg.size - (intOf i).toNat)
 case atStart => exact ⟨0, Nat.zero_le _, rfl, h⟩
 case round =>
  clear B0 b2 bl h
  obtain ⟨k, hk, rfl, h1⟩ := hrel
  obtain ⟨tv, B1⟩ := HB'.out k wr h1
  have b2 := B1.c2
  have bl := B1.lt
  by_cases hlt : k < dg.size
  ·have HC := HK'.out k hlt _ h1
   go_wp2_with fail
   refine Calls.mono HC ?_
   rintro e w1 ⟨O, rfl, hF, hI⟩
   clear h1 HC
   by_cases hO : O = 4
   ·have hO' : (O == 4) = true := by simp [hO]
    have HF : Hid (F w1) := hF hO
    clear hO hF hI
    go_wp2
    go_ret
    exact Or.inl ⟨rfl, HF.out⟩
   ·have hO' : (O == 4) = false := by simp [hO]
    have HI : Hid (I (k + 1) w1) := hI hO
    clear hO hF hI
    go_wp2
    go_round
    case rel => exact ⟨k + 1, by omega, by go_num, HI.out⟩
    case measure => simp [intOf] <;> omega
  ·have hkn : k = dg.size := by omega
   subst hkn
   have HI : Hid (I dg.size wr) := h1
   clear h1
   go_wp2
   go_ret
   exact Or.inr ⟨rfl, HI.out⟩
