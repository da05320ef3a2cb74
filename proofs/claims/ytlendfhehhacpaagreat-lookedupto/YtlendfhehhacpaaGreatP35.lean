/- Joined of the texts ModesU. -/
import Derived.Test.YtlendfhehhacpaaGreatP34
import Derived.Test.YtlendfhehhacpaaGreatP10
set_option linter.unusedVariables false
set_option linter.unusedSimpArgs false
set_option maxRecDepth 100000
set_option maxHeartbeats 8000000
namespace Go.Proofs.YtlendfhehhacpaaGreat
open Go.RowKit
abbrev GivesB (f : Nat) (args : Array Value) (A B : World → Prop) (O : Int) (T : List Nat) : Prop :=
  Hid (∀ ww, A ww → Calls Tryz.prog f args ww fun e w' => e = .returned (.int .i64 O) ∧ B w' ∧ Upd T ww w')
def Firm (A : World → Prop) : Prop := ∀ w w', A w → Below w.heap.size w w' → A w'
abbrev HasR (A : World → Prop) (r d : Nat) (p : Pg) : Prop := ∀ w, A w → RdAt w r d p
theorem Firm.rd {r d : Nat} {p : Pg} : Firm (fun w => RdAt w r d p) := fun _ _ h hb => h.below hb
theorem mArrive_fail (r : Nat) (X K : Int) (A : World → Prop) (T : List Nat) (w : World) (hA : A w) (fA : Firm A) :
    Calls Tryz.prog 166 #[.pointer (some ⟨r, 0, none⟩), .agg #[.int .i64 X, .int .i64 K], .bool false] w fun e w' => e = .returned (.int .i64 4) ∧ A w' ∧ Upd T w w' := by
  go_enter Tryz.func166, Tryz.ntmps166
  go_wp2
  go_ret
  refine ⟨rfl, ?_, ?_⟩
  · exact (fA _ _ hA (by (repeat (with_reducible first | exact Below.refl _ _ | refine b_s ?_ _ | refine b_a ?_ _ | refine Below.drew ?_ | refine below_drewN ?_ _))))
  · repeat (with_reducible first | exact Upd.refl _ _ | refine u_s ?_ _ | refine Upd.alloc ?_ _ | refine Upd.drewN ?_ _ | refine Upd.drew ?_)
theorem mArrive_verb (r d : Nat) (p : Pg) (X K O : Int) (i j : Int) (l : Bool) (A B : World → Prop) (T : List Nat) (w : World) (hA : A w) (fA : Firm A) (fB : Firm B) (hr : HasR A r d p) (hT : r ∉ T) (hTl : ∀ k, k ∈ T → k < w.heap.size) (hn : p.n ≤ 99) (hb : p.behind ≤ 99) (hv : ¬ p.verb = 0)
    (HK : Hid (∀ ww, Calls Tryz.prog 203 #[.agg #[.string p.t, .int .i64 (p.pl), .int .i64 (cnt p), .bool (p.verb != 0), .bool (p.verb == 99)], .agg #[.int .i64 X, .int .i64 K]] ww fun e w' => e = .returned (.agg #[.int .i64 i, .int .i64 j, .bool l]) ∧ Below ww.heap.size ww w'))
    (HD : GivesB 146 #[.pointer (some ⟨r, 0, none⟩), .int .u8 p.verb, .agg #[.int .i64 i, .int .i64 j, .bool l]] A B O T) :
    Calls Tryz.prog 166 #[.pointer (some ⟨r, 0, none⟩), .agg #[.int .i64 X, .int .i64 K], .bool true] w fun e w' => e = .returned (.int .i64 O) ∧ B w' ∧ Upd T w w' := by
  have HS : Hid (∀ ww, A ww → Calls Tryz.prog 168 #[.pointer (some ⟨r, 0, none⟩)] ww fun e w' => e = .returned (.agg #[.string p.t, .int .i64 (p.pl), .int .i64 (cnt p), .bool (p.verb != 0), .bool (p.verb == 99)]) ∧ Below ww.heap.size ww w') := fun ww hh => mStart r d p ww (hr ww hh) hn hb
  have h := hr w hA
  have hv' : (p.verb == 0) = false := by simp [hv]
  have hv2 : (p.verb != 0) = true := by simp [hv]
  have r3 := h.bg.c3
  have hlr := h.bg.lt
  rw [hv2] at HK HS
  have hTw : w.heap.size ∉ T := fun hk => by have := hTl _ hk; omega
  generalize cnt p = N at *
  generalize (p.verb == 99) = C at *
  clear h hv
  go_enter Tryz.func166, Tryz.ntmps166
  have g0 : (w.alloc (.cells #[.int .i64 X, .int .i64 K] 202)).cell? ⟨w.heap.size, 0, none⟩ = some (.int .i64 X) := by simp
  have g1 : (w.alloc (.cells #[.int .i64 X, .int .i64 K] 202)).cell? ⟨w.heap.size, 1, none⟩ = some (.int .i64 K) := by simp
  go_wp2_with fail
  go_region_held3 (fun ww => ww.cell? ⟨r, 3, none⟩ = some (.int .u8 p.verb) ∧ ww.cell? ⟨w.heap.size, 0, none⟩ = some (.int .i64 X) ∧ ww.cell? ⟨w.heap.size, 1, none⟩ = some (.int .i64 K)) ((refine ⟨?_, ?_, ?_⟩ <;> (first | (go_simp; done) | ((repeat (first | with_reducible assumption | (with_reducible refine memLater ((Below.refl _ _).alloc (Nat.le_refl _) _) ?_) | (with_reducible refine memLater ((Below.refl _ _).drew) ?_) | (with_reducible refine memLater h1 ?_) | (with_reducible refine memLater h2 ?_) | (with_reducible refine (memSet (by omega)).trans ?_) | (go_simp; done))); done)))) (first | (go_at_call 168; refine Calls.mono (HS.out _ (fA _ _ hA (by (repeat (with_reducible first | exact Below.refl _ _ | refine b_s ?_ _ | refine b_a ?_ _ | refine Below.drew ?_ | refine below_drewN ?_ _))))) ?_; rintro r1 w1 ⟨rfl, h1⟩; have hz1 := h1.size; (try simp at hz1); (try have hl1_0 : r < w1.heap.size := (by omega)); (try have hk1_0 : r < w1.heap.size + 1 := (by omega)); (try have hl1_1 : w.heap.size < w1.heap.size := (by omega)); (try have hk1_1 : w.heap.size < w1.heap.size + 1 := (by omega))) | (go_at_call 203; refine Calls.mono (HK.out _) ?_; rintro r2 w2 ⟨rfl, h2⟩; have hz2 := h2.size; (try simp at hz2); (try have hl2_0 : r < w2.heap.size := (by omega)); (try have hk2_0 : r < w2.heap.size + 1 := (by omega)); (try have hl2_1 : w.heap.size < w2.heap.size := (by omega)); (try have hk2_1 : w.heap.size < w2.heap.size + 1 := (by omega))) | (go_at_call 146; refine Calls.mono (HD.out _ (fA _ _ hA (by (repeat (with_reducible first | exact Below.refl _ _ | refine b_s ?_ _ | refine b_a ?_ _ | refine Below.drew ?_ | refine below_drewN ?_ _ | refine b_t ?_ h2 | refine b_t ?_ h1))))) ?_; rintro r3 w3 ⟨rfl, h3, u3⟩; have hz3 := u3.size; (try simp at hz3); have a0 := u3.was (b := r) (o := 3) (v := .int .u8 p.verb) (by (repeat (first | with_reducible assumption | (with_reducible refine memLater ((Below.refl _ _).alloc (Nat.le_refl _) _) ?_) | (with_reducible refine memLater ((Below.refl _ _).drew) ?_) | (with_reducible refine memLater h2 ?_) | (with_reducible refine memLater h1 ?_)))) hT; have a1 := u3.was (b := w.heap.size) (o := 0) (v := .int .i64 X) (by (repeat (first | with_reducible assumption | (with_reducible refine memLater ((Below.refl _ _).alloc (Nat.le_refl _) _) ?_) | (with_reducible refine memLater ((Below.refl _ _).drew) ?_) | (with_reducible refine memLater h2 ?_) | (with_reducible refine memLater h1 ?_)))) hTw; have a2 := u3.was (b := w.heap.size) (o := 1) (v := .int .i64 K) (by (repeat (first | with_reducible assumption | (with_reducible refine memLater ((Below.refl _ _).alloc (Nat.le_refl _) _) ?_) | (with_reducible refine memLater ((Below.refl _ _).drew) ?_) | (with_reducible refine memLater h2 ?_) | (with_reducible refine memLater h1 ?_)))) hTw))
  go_wp2
  go_ret
  refine ⟨rfl, ?_, ?_⟩
  · exact (fB _ _ h3 (by (repeat (with_reducible first | exact Below.refl _ _ | refine b_s ?_ _ | refine b_a ?_ _ | refine Below.drew ?_ | refine below_drewN ?_ _))))
  · repeat (with_reducible first | exact Upd.refl _ _ | refine u_s ?_ _ | refine Upd.alloc ?_ _ | refine Upd.drewN ?_ _ | refine Upd.drew ?_ | refine Upd.trans ?_ (Upd.mono u3 (by simp)) | refine Upd.below ?_ h2 | refine Upd.below ?_ h1)
theorem mWay_goB (r d : Nat) (p : Pg) (key X K O : Int) (Z : Bool) (A B : World → Prop) (T : List Nat) (w : World) (hA : A w) (fA : Firm A) (fB : Firm B) (hr : HasR A r d p) (hn : p.n ≤ 99) (hb : p.behind ≤ 99) (hk1 : Nib.isFind key = false) (hk2 : ¬ key = 103) (hk3 : ¬ key = 59) (hk4 : ¬ key = 44)
    (HG : Hid (∀ ww, Calls Tryz.prog 169 #[.int .u8 key, .agg #[.string p.t, .int .i64 (p.pl), .int .i64 (cnt p), .bool (p.verb != 0), .bool (p.verb == 99)]] ww fun e w' => e = .returned (.tuple #[.agg #[.int .i64 X, .int .i64 K], .bool Z]) ∧ Below ww.heap.size ww w'))
    (HA : GivesB 166 #[.pointer (some ⟨r, 0, none⟩), .agg #[.int .i64 X, .int .i64 K], .bool Z] A B O T) :
    Calls Tryz.prog 148 #[.pointer (some ⟨r, 0, none⟩), .int .u8 key] w fun e w' => e = .returned (.int .i64 O) ∧ B w' ∧ Upd T w w' := by
  have HS : Hid (∀ ww, A ww → Calls Tryz.prog 168 #[.pointer (some ⟨r, 0, none⟩)] ww fun e w' => e = .returned (.agg #[.string p.t, .int .i64 (p.pl), .int .i64 (cnt p), .bool (p.verb != 0), .bool (p.verb == 99)]) ∧ Below ww.heap.size ww w') := fun ww hh => mStart r d p ww (hr ww hh) hn hb
  generalize cnt p = N at *
  generalize (p.verb == 99) = C at *
  generalize (p.verb != 0) = V at *
  simp only [Nib.isFind, Bool.or_eq_false_iff, beq_eq_false_iff_ne] at hk1
  obtain ⟨⟨⟨k1, k2⟩, k3⟩, k4⟩ := hk1
  have k1' : (key == 102) = false := by simp [k1]
  have k2' : (key == 116) = false := by simp [k2]
  have k3' : (key == 70) = false := by simp [k3]
  have k4' : (key == 84) = false := by simp [k4]
  have k5' : (key == 103) = false := by simp [hk2]
  have k6' : (key == 59) = false := by simp [hk3]
  have k7' : (key == 44) = false := by simp [hk4]
  clear k1 k2 k3 k4 hk2 hk3 hk4
  go_enter Tryz.func148, Tryz.ntmps148
  go_wp2_with fail
  refine Calls.mono (HS.out _ (fA _ _ hA (by (repeat (with_reducible first | exact Below.refl _ _ | refine b_s ?_ _ | refine b_a ?_ _ | refine Below.drew ?_ | refine below_drewN ?_ _))))) ?_
  rintro e w1 ⟨rfl, h1⟩
  have hz1 := h1.size
  (try simp at hz1)
  go_wp2_with fail
  refine Calls.mono (HG.out _) ?_
  rintro e w2 ⟨rfl, h2⟩
  have hz2 := h2.size
  (try simp at hz2)
  go_wp2_with fail
  refine Calls.mono (HA.out _ (fA _ _ hA (by (repeat (with_reducible first | exact Below.refl _ _ | refine b_s ?_ _ | refine b_a ?_ _ | refine Below.drew ?_ | refine below_drewN ?_ _ | refine b_t ?_ h2 | refine b_t ?_ h1))))) ?_
  rintro e w3 ⟨rfl, h3, u3⟩
  go_wp2
  go_ret
  refine ⟨rfl, ?_, ?_⟩
  · exact (fB _ _ h3 (by (repeat (with_reducible first | exact Below.refl _ _ | refine b_s ?_ _ | refine b_a ?_ _ | refine Below.drew ?_ | refine below_drewN ?_ _))))
  · repeat (with_reducible first | exact Upd.refl _ _ | refine u_s ?_ _ | refine Upd.alloc ?_ _ | refine Upd.drewN ?_ _ | refine Upd.drew ?_ | refine Upd.trans ?_ (Upd.mono u3 (by simp)) | refine Upd.below ?_ h2 | refine Upd.below ?_ h1)
theorem mComplete_ggB (r d : Nat) (p : Pg) (X K O : Int) (Z : Bool) (A B : World → Prop) (T : List Nat) (w : World) (hA : A w) (fA : Firm A) (fB : Firm B) (hr : HasR A r d p) (hn : p.n ≤ 99) (hb : p.behind ≤ 99) (hp : p.part = 103)
    (HG : Hid (∀ ww, Calls Tryz.prog 169 #[.int .u8 103, .agg #[.string p.t, .int .i64 (p.pl), .int .i64 (cnt p), .bool (p.verb != 0), .bool (p.verb == 99)]] ww fun e w' => e = .returned (.tuple #[.agg #[.int .i64 X, .int .i64 K], .bool Z]) ∧ Below ww.heap.size ww w'))
    (HA : GivesB 166 #[.pointer (some ⟨r, 0, none⟩), .agg #[.int .i64 X, .int .i64 K], .bool Z] A B O T) :
    Calls Tryz.prog 145 #[.pointer (some ⟨r, 0, none⟩), .int .u8 103] w fun e w' => e = .returned (.int .i64 O) ∧ B w' ∧ Upd T w w' := by
  have HS : Hid (∀ ww, A ww → Calls Tryz.prog 168 #[.pointer (some ⟨r, 0, none⟩)] ww fun e w' => e = .returned (.agg #[.string p.t, .int .i64 (p.pl), .int .i64 (cnt p), .bool (p.verb != 0), .bool (p.verb == 99)]) ∧ Below ww.heap.size ww w') := fun ww hh => mStart r d p ww (hr ww hh) hn hb
  generalize cnt p = N at *
  generalize (p.verb == 99) = C at *
  generalize (p.verb != 0) = V at *
  have b5 := (hr w hA).bg.c5
  have bl := (hr w hA).bg.lt
  rw [hp] at b5
  clear hp
  go_enter Tryz.func145, Tryz.ntmps145
  go_wp2_with fail
  refine Calls.mono (HS.out _ (fA _ _ hA (by (repeat (with_reducible first | exact Below.refl _ _ | refine b_s ?_ _ | refine b_a ?_ _ | refine Below.drew ?_ | refine below_drewN ?_ _))))) ?_
  rintro e w1 ⟨rfl, h1⟩
  have hz1 := h1.size
  (try simp at hz1)
  go_wp2_with fail
  refine Calls.mono (HG.out _) ?_
  rintro e w2 ⟨rfl, h2⟩
  have hz2 := h2.size
  (try simp at hz2)
  go_wp2_with fail
  refine Calls.mono (HA.out _ (fA _ _ hA (by (repeat (with_reducible first | exact Below.refl _ _ | refine b_s ?_ _ | refine b_a ?_ _ | refine Below.drew ?_ | refine below_drewN ?_ _ | refine b_t ?_ h2 | refine b_t ?_ h1))))) ?_
  rintro e w3 ⟨rfl, h3, u3⟩
  go_wp2
  go_ret
  refine ⟨rfl, ?_, ?_⟩
  · exact (fB _ _ h3 (by (repeat (with_reducible first | exact Below.refl _ _ | refine b_s ?_ _ | refine b_a ?_ _ | refine Below.drew ?_ | refine below_drewN ?_ _))))
  · repeat (with_reducible first | exact Upd.refl _ _ | refine u_s ?_ _ | refine Upd.alloc ?_ _ | refine Upd.drewN ?_ _ | refine Upd.drew ?_ | refine Upd.trans ?_ (Upd.mono u3 (by simp)) | refine Upd.below ?_ h2 | refine Upd.below ?_ h1)
abbrev HasF (B : World → Prop) (r d : Nat) (a c : Int) : Prop := ∀ w, B w → w.cell? ⟨r, 0, none⟩ = some (.pointer (some ⟨d, 0, none⟩)) ∧ w.cell? ⟨d, 8, none⟩ = some (.int .u8 a) ∧ w.cell? ⟨d, 9, none⟩ = some (.int .u8 c)
theorem mWay_againB (r d : Nat) (p : Pg) (X K O : Int) (Z : Bool) (A B : World → Prop) (T : List Nat) (w : World) (hA : A w) (fA : Firm A) (fB : Firm B) (hr : HasR A r d p) (hf : HasF B r d p.fnd p.findC) (hn : p.n ≤ 99) (hb : p.behind ≤ 99)
    (HG : Hid (∀ ww, Calls Tryz.prog 183 #[.agg #[.int .u8 p.fnd, .int .u8 p.findC], .agg #[.string p.t, .int .i64 (p.pl), .int .i64 (cnt p), .bool (p.verb != 0), .bool (p.verb == 99)]] ww fun e w' => e = .returned (.tuple #[.agg #[.int .i64 X, .int .i64 K], .bool Z]) ∧ Below ww.heap.size ww w'))
    (HA : GivesB 166 #[.pointer (some ⟨r, 0, none⟩), .agg #[.int .i64 X, .int .i64 K], .bool Z] A B O T) :
    Calls Tryz.prog 148 #[.pointer (some ⟨r, 0, none⟩), .int .u8 59] w fun e w' => e = .returned (.int .i64 O) ∧ B w' ∧ Upd T w w' := by
  have HS : Hid (∀ ww, A ww → Calls Tryz.prog 168 #[.pointer (some ⟨r, 0, none⟩)] ww fun e w' => e = .returned (.agg #[.string p.t, .int .i64 (p.pl), .int .i64 (cnt p), .bool (p.verb != 0), .bool (p.verb == 99)]) ∧ Below ww.heap.size ww w') := fun ww hh => mStart r d p ww (hr ww hh) hn hb
  generalize cnt p = N at *
  generalize (p.verb == 99) = C at *
  generalize (p.verb != 0) = V at *
  have b0 := (hr w hA).bg.c0
  have hlr := (hr w hA).bg.lt
  have c8 := (hr w hA).dk.c8
  have c9 := (hr w hA).dk.c9
  have hld := (hr w hA).dk.lt
  go_enter Tryz.func148, Tryz.ntmps148
  go_wp2_with fail
  go_region_held3 (fun ww => ww.cell? ⟨r, 0, none⟩ = some (.pointer (some ⟨d, 0, none⟩)) ∧ ww.cell? ⟨d, 8, none⟩ = some (.int .u8 p.fnd) ∧ ww.cell? ⟨d, 9, none⟩ = some (.int .u8 p.findC)) ((refine ⟨?_, ?_, ?_⟩ <;> (first | (go_simp; done) | (repeat (first | with_reducible assumption | (with_reducible refine memLater ((Below.refl _ _).alloc (Nat.le_refl _) _) ?_) | (with_reducible refine memLater ((Below.refl _ _).drew) ?_) | (with_reducible refine memLater h1 ?_) | (with_reducible refine memLater h2 ?_) | (with_reducible refine (memSet (by omega)).trans ?_)))))) (first | (go_at_call 168; refine Calls.mono (HS.out _ (fA _ _ hA (by (repeat (with_reducible first | exact Below.refl _ _ | refine b_s ?_ _ | refine b_a ?_ _ | refine Below.drew ?_ | refine below_drewN ?_ _))))) ?_; rintro e1 w1 ⟨rfl, h1⟩; have hz1 := h1.size; (try simp at hz1); have hlr1 : r < w1.heap.size := (by omega); have hld1 : d < w1.heap.size := (by omega)) | (go_at_call 183; refine Calls.mono (HG.out _) ?_; rintro e2 w2 ⟨rfl, h2⟩; have hz2 := h2.size; (try simp at hz2); have hlr2 : r < w2.heap.size := (by omega); have hld2 : d < w2.heap.size := (by omega)) | (go_at_call 166; refine Calls.mono (HA.out _ (fA _ _ hA (by (repeat (with_reducible first | exact Below.refl _ _ | refine b_s ?_ _ | refine b_a ?_ _ | refine Below.drew ?_ | refine below_drewN ?_ _ | refine b_t ?_ h2 | refine b_t ?_ h1))))) ?_; rintro e3 w3 ⟨rfl, h3, u3⟩; obtain ⟨g0, g8, g9⟩ := hf w3 h3))
  go_wp2
  go_ret
  refine ⟨rfl, ?_, ?_⟩
  · exact (fB _ _ h3 (by (repeat (with_reducible first | exact Below.refl _ _ | refine b_s ?_ _ | refine b_a ?_ _ | refine Below.drew ?_ | refine below_drewN ?_ _))))
  · repeat (with_reducible first | exact Upd.refl _ _ | refine u_s ?_ _ | refine Upd.alloc ?_ _ | refine Upd.drewN ?_ _ | refine Upd.drew ?_ | refine Upd.trans ?_ (Upd.mono u3 (by simp)) | refine Upd.below ?_ h2 | refine Upd.below ?_ h1)
theorem mWay_turnedB (r d : Nat) (p : Pg) (K1 X K O : Int) (Z : Bool) (A B : World → Prop) (T : List Nat) (w : World) (hA : A w) (fA : Firm A) (fB : Firm B) (hr : HasR A r d p) (hn : p.n ≤ 99) (hb : p.behind ≤ 99)
    (HT : Hid (∀ ww, Calls Tryz.prog 184 #[.agg #[.int .u8 p.fnd, .int .u8 p.findC]] ww fun e w' => e = .returned (.agg #[.int .u8 K1, .int .u8 p.findC]) ∧ Below ww.heap.size ww w'))
    (HG : Hid (∀ ww, Calls Tryz.prog 183 #[.agg #[.int .u8 K1, .int .u8 p.findC], .agg #[.string p.t, .int .i64 (p.pl), .int .i64 (cnt p), .bool (p.verb != 0), .bool (p.verb == 99)]] ww fun e w' => e = .returned (.tuple #[.agg #[.int .i64 X, .int .i64 K], .bool Z]) ∧ Below ww.heap.size ww w'))
    (HA : GivesB 166 #[.pointer (some ⟨r, 0, none⟩), .agg #[.int .i64 X, .int .i64 K], .bool Z] A B O T) :
    Calls Tryz.prog 148 #[.pointer (some ⟨r, 0, none⟩), .int .u8 44] w fun e w' => e = .returned (.int .i64 O) ∧ B w' ∧ Upd T w w' := by
  have HS : Hid (∀ ww, A ww → Calls Tryz.prog 168 #[.pointer (some ⟨r, 0, none⟩)] ww fun e w' => e = .returned (.agg #[.string p.t, .int .i64 (p.pl), .int .i64 (cnt p), .bool (p.verb != 0), .bool (p.verb == 99)]) ∧ Below ww.heap.size ww w') := fun ww hh => mStart r d p ww (hr ww hh) hn hb
  generalize cnt p = N at *
  generalize (p.verb == 99) = C at *
  generalize (p.verb != 0) = V at *
  have b0 := (hr w hA).bg.c0
  have hlr := (hr w hA).bg.lt
  have c8 := (hr w hA).dk.c8
  have c9 := (hr w hA).dk.c9
  have hld := (hr w hA).dk.lt
  go_enter Tryz.func148, Tryz.ntmps148
  go_wp2_with fail
  refine Calls.mono (HT.out _) ?_
  rintro e w4 ⟨rfl, h4⟩
  have hz4 := h4.size
  (try simp at hz4)
  go_wp2_with fail
  refine Calls.mono (HS.out _ (fA _ _ hA (by (repeat (with_reducible first | exact Below.refl _ _ | refine b_s ?_ _ | refine b_a ?_ _ | refine Below.drew ?_ | refine below_drewN ?_ _ | refine b_t ?_ h4))))) ?_
  rintro e w1 ⟨rfl, h1⟩
  have hz1 := h1.size
  (try simp at hz1)
  go_wp2_with fail
  refine Calls.mono (HG.out _) ?_
  rintro e w2 ⟨rfl, h2⟩
  have hz2 := h2.size
  (try simp at hz2)
  go_wp2_with fail
  refine Calls.mono (HA.out _ (fA _ _ hA (by (repeat (with_reducible first | exact Below.refl _ _ | refine b_s ?_ _ | refine b_a ?_ _ | refine Below.drew ?_ | refine below_drewN ?_ _ | refine b_t ?_ h2 | refine b_t ?_ h1 | refine b_t ?_ h4))))) ?_
  rintro e w3 ⟨rfl, h3, u3⟩
  go_wp2
  go_ret
  refine ⟨rfl, ?_, ?_⟩
  · exact (fB _ _ h3 (by (repeat (with_reducible first | exact Below.refl _ _ | refine b_s ?_ _ | refine b_a ?_ _ | refine Below.drew ?_ | refine below_drewN ?_ _))))
  · repeat (with_reducible first | exact Upd.refl _ _ | refine u_s ?_ _ | refine Upd.alloc ?_ _ | refine Upd.drewN ?_ _ | refine Upd.drew ?_ | refine Upd.trans ?_ (Upd.mono u3 (by simp)) | refine Upd.below ?_ h2 | refine Upd.below ?_ h1 | refine Upd.below ?_ h4)
end Go.Proofs.YtlendfhehhacpaaGreat
