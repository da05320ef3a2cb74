/- A part. -/
import Derived.Test.YtlendfhehhacpaaGreatT48
set_option linter.unusedVariables false
set_option linter.unusedSimpArgs false
set_option maxRecDepth 100000
set_option maxHeartbeats 8000000
namespace Go.Proofs.YtlendfhehhacpaaGreat
open Go.RowKit Nib Tryz
theorem qt65 {P : Prop} (h : P := by
  have H := hr w hA
  have b0 := H.bg.c0
  have bl := H.bg.lt
  have l1 : r < w.heap.size + 1 := by omega
  rcases hk with hk
  all_goals
   subst hk
   go_enter func310, ntmps310
   go_wp2_with fail
   refine Calls.mono (HC.out _ (fA _ _ hA qB)) ?_
   rintro e w2 ⟨rfl, h2, u2⟩
   go_wp2
   go_ret
   refine ⟨rfl, ?_, ?_⟩
   ·exact (fB _ _ h2 qB)
   ·repeat exact qU
 ) : P := h
theorem mMCommand_lead (r d : Nat) (p : Pg) (key O : Int) (A B : World → Prop) (T : List Nat) (w : World) (hA : A w) (fA : Firm A) (fB : Firm B) (hr : HasR A r d p) (hk : key = 34)
  (HC : GivesB 149 #[.pointer (some ⟨r, 1, none⟩)] A B O T) :
  Calls Tryz.prog 310 #[.agg #[.pointer (some ⟨r, 0, none⟩)], .int .u8 key] w fun e w' => e = .returned (.int .i64 O) ∧ B w' ∧ Upd T w w' := by
 exact qt65
theorem mMCommand_await (r d : Nat) (p : Pg) (key O : Int) (A B : World → Prop) (T : List Nat) (w : World) (hA : A w) (fA : Firm A) (fB : Firm B) (hr : HasR A r d p) (hk : key = 105 ∨ key = 97)
  (HC : GivesB 142 #[.pointer (some ⟨r, 1, none⟩), .int .u8 key] A B O T) :
  Calls Tryz.prog 310 #[.agg #[.pointer (some ⟨r, 0, none⟩)], .int .u8 key] w fun e w' => e = .returned (.int .i64 O) ∧ B w' ∧ Upd T w w' := by
 have H := hr w hA
 have b0 := H.bg.c0
 have bl := H.bg.lt
 have l1 : r < w.heap.size + 1 := by omega
 rcases hk with hk | hk
 all_goals
  subst hk
  go_enter func310, ntmps310
  go_wp2_with fail
  refine Calls.mono (HC.out _ (fA _ _ hA qB)) ?_
  rintro e w2 ⟨rfl, h2, u2⟩
  go_wp2
  go_ret
  refine ⟨rfl, ?_, ?_⟩
  ·exact (fB _ _ h2 qB)
  ·repeat exact qU
theorem mMCommand_ends (r d : Nat) (p : Pg) (key O : Int) (A B : World → Prop) (T : List Nat) (w : World) (hA : A w) (fA : Firm A) (fB : Firm B) (hr : HasR A r d p) (hk : key = 111)
  (HC : GivesB 311 #[.agg #[.pointer (some ⟨r, 0, none⟩)]] A B O T) :
  Calls Tryz.prog 310 #[.agg #[.pointer (some ⟨r, 0, none⟩)], .int .u8 key] w fun e w' => e = .returned (.int .i64 O) ∧ B w' ∧ Upd T w w' := by
 exact qt65
theorem qt30 {P : Prop} (h : P := by
  have hTw : w.heap.size ∉ T := fun hk => by have := hTl _ hk; omega
  rcases hk with hk
  all_goals
   subst hk
   go_enter func310, ntmps310
   have g0 : (w.alloc (.cells #[.pointer (some ⟨r, 0, none⟩)] 81)).cell? ⟨w.heap.size, 0, none⟩ = some (.pointer (some ⟨r, 0, none⟩)) := by simp
   go_wp2_with fail
   go_region_held3 (fun ww => ww.cell? ⟨w.heap.size, 0, none⟩ = some (.pointer (some ⟨r, 0, none⟩))) ((first | (go_simp; done) | ((repeat exact qM); done))) (first | (go_at_call 313; refine Calls.mono (HM.out _ (fA _ _ hA qB)) ?_; rintro r1 w1 ⟨rfl, h1⟩; have hz1 := h1.size; (try simp at hz1); (try have ⟨hl1_0, hk1_0⟩ := qL w.heap.size w1.heap.size)) | (go_at_call 146; refine Calls.mono (HD.out _ (fA _ _ hA qB)) ?_; rintro r2 w2 ⟨rfl, h2, u2⟩; have hz2 := u2.size; (try simp at hz2); have a1 := u2.was (b := w.heap.size) (o := 0) (v := .pointer (some ⟨r, 0, none⟩)) qM hTw))
   go_wp2
   go_ret
   refine ⟨rfl, ?_, ?_⟩
   ·exact (fB _ _ h2 qB)
   ·repeat exact qU
 ) : P := h
theorem mMCommand_x (r d : Nat) (p : Pg) (key O : Int) (i j : Int) (l : Bool) (A B : World → Prop) (T : List Nat) (w : World) (hA : A w) (fA : Firm A) (fB : Firm B) (hr : HasR A r d p) (hTl : ∀ k, k ∈ T → k < w.heap.size) (hk : key = 120)
  (HM : Hid (∀ ww, A ww → qC 313 #[.agg #[.pointer (some ⟨r, 0, none⟩)]] ww (.agg #[.int .i64 i, .int .i64 j, .bool l])))
  (HD : GivesB 146 #[.pointer (some ⟨r, 0, none⟩), .int .u8 100, .agg #[.int .i64 i, .int .i64 j, .bool l]] A B O T) :
  Calls Tryz.prog 310 #[.agg #[.pointer (some ⟨r, 0, none⟩)], .int .u8 key] w fun e w' => e = .returned (.int .i64 O) ∧ B w' ∧ Upd T w w' := by
 exact qt30
theorem mMCommand_s (r d : Nat) (p : Pg) (key O : Int) (i j : Int) (l : Bool) (A B : World → Prop) (T : List Nat) (w : World) (hA : A w) (fA : Firm A) (fB : Firm B) (hr : HasR A r d p) (hTl : ∀ k, k ∈ T → k < w.heap.size) (hk : key = 115)
  (HM : Hid (∀ ww, A ww → qC 313 #[.agg #[.pointer (some ⟨r, 0, none⟩)]] ww (.agg #[.int .i64 i, .int .i64 j, .bool l])))
  (HD : GivesB 146 #[.pointer (some ⟨r, 0, none⟩), .int .u8 99, .agg #[.int .i64 i, .int .i64 j, .bool l]] A B O T) :
  Calls Tryz.prog 310 #[.agg #[.pointer (some ⟨r, 0, none⟩)], .int .u8 key] w fun e w' => e = .returned (.int .i64 O) ∧ B w' ∧ Upd T w w' := by
 exact qt30
theorem mMCommand_do (r d : Nat) (p : Pg) (key O : Int) (i j : Int) (l : Bool) (A B : World → Prop) (T : List Nat) (w : World) (hA : A w) (fA : Firm A) (fB : Firm B) (hr : HasR A r d p) (hTl : ∀ k, k ∈ T → k < w.heap.size) (hk : key = 100 ∨ key = 99 ∨ key = 121 ∨ key = 62 ∨ key = 60 ∨ key = 117 ∨ key = 85)
  (HM : Hid (∀ ww, A ww → qC 313 #[.agg #[.pointer (some ⟨r, 0, none⟩)]] ww (.agg #[.int .i64 i, .int .i64 j, .bool l])))
  (HD : GivesB 146 #[.pointer (some ⟨r, 0, none⟩), .int .u8 key, .agg #[.int .i64 i, .int .i64 j, .bool l]] A B O T) :
  Calls Tryz.prog 310 #[.agg #[.pointer (some ⟨r, 0, none⟩)], .int .u8 key] w fun e w' => e = .returned (.int .i64 O) ∧ B w' ∧ Upd T w w' := by
 have hTw : w.heap.size ∉ T := fun hk => by have := hTl _ hk; omega
 rcases hk with hk | hk | hk | hk | hk | hk | hk
 all_goals
  subst hk
  go_enter func310, ntmps310
  have g0 : (w.alloc (.cells #[.pointer (some ⟨r, 0, none⟩)] 81)).cell? ⟨w.heap.size, 0, none⟩ = some (.pointer (some ⟨r, 0, none⟩)) := by simp
  go_wp2_with fail
  go_region_held3 (fun ww => ww.cell? ⟨w.heap.size, 0, none⟩ = some (.pointer (some ⟨r, 0, none⟩))) ((first | (go_simp; done) | ((repeat exact qM); done))) (first | (go_at_call 313; refine Calls.mono (HM.out _ (fA _ _ hA qB)) ?_; rintro r1 w1 ⟨rfl, h1⟩; have hz1 := h1.size; (try simp at hz1); (try have ⟨hl1_0, hk1_0⟩ := qL w.heap.size w1.heap.size)) | (go_at_call 146; refine Calls.mono (HD.out _ (fA _ _ hA qB)) ?_; rintro r2 w2 ⟨rfl, h2, u2⟩; have hz2 := u2.size; (try simp at hz2); have a1 := u2.was (b := w.heap.size) (o := 0) (v := .pointer (some ⟨r, 0, none⟩)) qM hTw))
  go_wp2
  go_ret
  refine ⟨rfl, ?_, ?_⟩
  ·exact (fB _ _ h2 qB)
  ·repeat exact qU
