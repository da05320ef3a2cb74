/- A part. -/
import Derived.Test.YtlendfhehhacpaaGreatP45
import Derived.Test.YtlendfhehhacpaaGreatP24
import Derived.Test.YtlendfhehhacpaaGreatP42
set_option linter.unusedVariables false
set_option linter.unusedSimpArgs false
set_option maxRecDepth 100000
set_option maxHeartbeats 8000000
namespace Go.Proofs.YtlendfhehhacpaaGreat
open Go.RowKit
theorem qt68 {P : Prop} (h : P := by
  have H := hr w hA
  have b0 := H.bg.c0
  have bl := H.bg.lt
  have l1 : r < w.heap.size + 1 := by omega
  rcases hk with hk
  all_goals
   subst hk
   go_enter Tryz.func310, Tryz.ntmps310
   go_wp2_with fail
   refine Calls.mono (HC.out _ (fA _ _ hA qB)) ?_
   rintro e w2 ⟨rfl, h2, u2⟩
   go_wp2
   go_ret
   refine ⟨rfl, ?_, ?_⟩
   ·exact (fB _ _ h2 qB)
   ·repeat exact qU
 ) : P := h
theorem mMCommand_lead (r d : Nat) (p : Pg) (key O : Int) (A B : World → Prop) (T : List Nat) (w : World) (hA : A w) (fA : Firm A) (fB : Firm B) (hr : HasR A r d p) (hk : key = 34)
  (HC : GivesB 149 #[.pointer (some ⟨r, 1, none⟩)] A B O T) :
  Calls Tryz.prog 310 #[.agg #[.pointer (some ⟨r, 0, none⟩)], .int .u8 key] w fun e w' => e = .returned (.int .i64 O) ∧ B w' ∧ Upd T w w' := by
 exact qt68
theorem mMCommand_await (r d : Nat) (p : Pg) (key O : Int) (A B : World → Prop) (T : List Nat) (w : World) (hA : A w) (fA : Firm A) (fB : Firm B) (hr : HasR A r d p) (hk : key = 105 ∨ key = 97)
  (HC : GivesB 142 #[.pointer (some ⟨r, 1, none⟩), .int .u8 key] A B O T) :
  Calls Tryz.prog 310 #[.agg #[.pointer (some ⟨r, 0, none⟩)], .int .u8 key] w fun e w' => e = .returned (.int .i64 O) ∧ B w' ∧ Upd T w w' := by
 have H := hr w hA
 have b0 := H.bg.c0
 have bl := H.bg.lt
 have l1 : r < w.heap.size + 1 := by omega
 rcases hk with hk | hk
 all_goals
  subst hk
  go_enter Tryz.func310, Tryz.ntmps310
  go_wp2_with fail
  refine Calls.mono (HC.out _ (fA _ _ hA qB)) ?_
  rintro e w2 ⟨rfl, h2, u2⟩
  go_wp2
  go_ret
  refine ⟨rfl, ?_, ?_⟩
  ·exact (fB _ _ h2 qB)
  ·repeat exact qU
theorem mMCommand_ends (r d : Nat) (p : Pg) (key O : Int) (A B : World → Prop) (T : List Nat) (w : World) (hA : A w) (fA : Firm A) (fB : Firm B) (hr : HasR A r d p) (hk : key = 111)
  (HC : GivesB 311 #[.agg #[.pointer (some ⟨r, 0, none⟩)]] A B O T) :
  Calls Tryz.prog 310 #[.agg #[.pointer (some ⟨r, 0, none⟩)], .int .u8 key] w fun e w' => e = .returned (.int .i64 O) ∧ B w' ∧ Upd T w w' := by
 exact qt68
theorem qt30 {P : Prop} (h : P := by
  have hTw : w.heap.size ∉ T := fun hk => by have := hTl _ hk; omega
  rcases hk with hk
  all_goals
   subst hk
   go_enter Tryz.func310, Tryz.ntmps310
   have g0 : (w.alloc (.cells #[.pointer (some ⟨r, 0, none⟩)] 81)).cell? ⟨w.heap.size, 0, none⟩ = some (.pointer (some ⟨r, 0, none⟩)) := by simp
   go_wp2_with fail
   go_region_held3 (fun ww => ww.cell? ⟨w.heap.size, 0, none⟩ = some (.pointer (some ⟨r, 0, none⟩))) ((first | (go_simp; done) | ((repeat exact qM); done))) (first | (go_at_call 313; refine Calls.mono (HM.out _ (fA _ _ hA qB)) ?_; rintro r1 w1 ⟨rfl, h1⟩; have hz1 := h1.size; (try simp at hz1); (try have ⟨hl1_0, hk1_0⟩ := qL w.heap.size w1.heap.size)) | (go_at_call 146; refine Calls.mono (HD.out _ (fA _ _ hA qB)) ?_; rintro r2 w2 ⟨rfl, h2, u2⟩; have hz2 := u2.size; (try simp at hz2); have a1 := u2.was (b := w.heap.size) (o := 0) (v := .pointer (some ⟨r, 0, none⟩)) qM hTw))
   go_wp2
   go_ret
   refine ⟨rfl, ?_, ?_⟩
   ·exact (fB _ _ h2 qB)
   ·repeat exact qU
 ) : P := h
theorem mMCommand_x (r d : Nat) (p : Pg) (key O : Int) (i j : Int) (l : Bool) (A B : World → Prop) (T : List Nat) (w : World) (hA : A w) (fA : Firm A) (fB : Firm B) (hr : HasR A r d p) (hTl : ∀ k, k ∈ T → k < w.heap.size) (hk : key = 120)
  (HM : Hid (∀ ww, A ww → qC 313 #[.agg #[.pointer (some ⟨r, 0, none⟩)]] ww (.agg #[.int .i64 i, .int .i64 j, .bool l])))
  (HD : GivesB 146 #[.pointer (some ⟨r, 0, none⟩), .int .u8 100, .agg #[.int .i64 i, .int .i64 j, .bool l]] A B O T) :
  Calls Tryz.prog 310 #[.agg #[.pointer (some ⟨r, 0, none⟩)], .int .u8 key] w fun e w' => e = .returned (.int .i64 O) ∧ B w' ∧ Upd T w w' := by
 exact qt30
theorem mMCommand_s (r d : Nat) (p : Pg) (key O : Int) (i j : Int) (l : Bool) (A B : World → Prop) (T : List Nat) (w : World) (hA : A w) (fA : Firm A) (fB : Firm B) (hr : HasR A r d p) (hTl : ∀ k, k ∈ T → k < w.heap.size) (hk : key = 115)
  (HM : Hid (∀ ww, A ww → qC 313 #[.agg #[.pointer (some ⟨r, 0, none⟩)]] ww (.agg #[.int .i64 i, .int .i64 j, .bool l])))
  (HD : GivesB 146 #[.pointer (some ⟨r, 0, none⟩), .int .u8 99, .agg #[.int .i64 i, .int .i64 j, .bool l]] A B O T) :
  Calls Tryz.prog 310 #[.agg #[.pointer (some ⟨r, 0, none⟩)], .int .u8 key] w fun e w' => e = .returned (.int .i64 O) ∧ B w' ∧ Upd T w w' := by
 exact qt30
theorem mMCommand_do (r d : Nat) (p : Pg) (key O : Int) (i j : Int) (l : Bool) (A B : World → Prop) (T : List Nat) (w : World) (hA : A w) (fA : Firm A) (fB : Firm B) (hr : HasR A r d p) (hTl : ∀ k, k ∈ T → k < w.heap.size) (hk : key = 100 ∨ key = 99 ∨ key = 121 ∨ key = 62 ∨ key = 60 ∨ key = 117 ∨ key = 85)
  (HM : Hid (∀ ww, A ww → qC 313 #[.agg #[.pointer (some ⟨r, 0, none⟩)]] ww (.agg #[.int .i64 i, .int .i64 j, .bool l])))
  (HD : GivesB 146 #[.pointer (some ⟨r, 0, none⟩), .int .u8 key, .agg #[.int .i64 i, .int .i64 j, .bool l]] A B O T) :
  Calls Tryz.prog 310 #[.agg #[.pointer (some ⟨r, 0, none⟩)], .int .u8 key] w fun e w' => e = .returned (.int .i64 O) ∧ B w' ∧ Upd T w w' := by
 have hTw : w.heap.size ∉ T := fun hk => by have := hTl _ hk; omega
 rcases hk with hk | hk | hk | hk | hk | hk | hk
 all_goals
  subst hk
  go_enter Tryz.func310, Tryz.ntmps310
  have g0 : (w.alloc (.cells #[.pointer (some ⟨r, 0, none⟩)] 81)).cell? ⟨w.heap.size, 0, none⟩ = some (.pointer (some ⟨r, 0, none⟩)) := by simp
  go_wp2_with fail
  go_region_held3 (fun ww => ww.cell? ⟨w.heap.size, 0, none⟩ = some (.pointer (some ⟨r, 0, none⟩))) ((first | (go_simp; done) | ((repeat exact qM); done))) (first | (go_at_call 313; refine Calls.mono (HM.out _ (fA _ _ hA qB)) ?_; rintro r1 w1 ⟨rfl, h1⟩; have hz1 := h1.size; (try simp at hz1); (try have ⟨hl1_0, hk1_0⟩ := qL w.heap.size w1.heap.size)) | (go_at_call 146; refine Calls.mono (HD.out _ (fA _ _ hA qB)) ?_; rintro r2 w2 ⟨rfl, h2, u2⟩; have hz2 := u2.size; (try simp at hz2); have a1 := u2.was (b := w.heap.size) (o := 0) (v := .pointer (some ⟨r, 0, none⟩)) qM hTw))
  go_wp2
  go_ret
  refine ⟨rfl, ?_, ?_⟩
  ·exact (fB _ _ h2 qB)
  ·repeat exact qU
theorem bTake_marking_moreB (b r d : Nat) (tv : Value) (dg : ByteArray) (p : Pg) (key : Int) (A B : World → Prop) (T : List Nat) (w : World) (hb : BdAt w b r d tv dg) (hA : A w) (fA : Firm A) (fB : Firm B) (hr : HasR A r d p) (hm : p.mode = 2 ∨ p.mode = 3) (hk : ¬ key = 27)
  (HC : GivesB 309 #[.agg #[.pointer (some ⟨r, 0, none⟩)], .int .u8 key] A B 0 T) :
  Calls Tryz.prog 46 #[.pointer (some ⟨b, 0, none⟩), .int .u8 key] w fun e w' => e = .returned (.int .i64 0) ∧ B w' ∧ Upd T w w' := by
 have HO : Hid (∀ ww, BdAt ww b r d tv dg → RdAt ww r d p → qC 64 #[.pointer (some ⟨b, 0, none⟩)] ww (.iface 81 (.agg #[.pointer (some ⟨r, 0, none⟩)]))) := fun ww h1 h2 => mOn_marking b r d tv dg p ww h1 h2 hm
 have H := hr w hA
 have hk' : (key == 27) = false := by simp [hk]
 have hmt := meth_marking_take ⟨r, 0, none⟩
 clear hm hk
 go_enter Tryz.func46, Tryz.ntmps46
 go_wp2_with fail
 refine Calls.mono (HO.out _ hb H) ?_
 rintro e w1 ⟨rfl, h1⟩
 exact qt57
def LkS (w0 : World) (b r d m : Nat) (t : ByteArray) (N : Nat) (ww : World) : Prop :=
 ∃ p f tv n xs dg, BdAt ww b r d tv dg ∧ ww.ownsRow 0 5 1 tv n xs ∧ n ≤ N ∧ RdAt ww r d p ∧ RgAt ww m f ∧ GoodL t m p ∧ (∀ k, tv.ownBlock = some k → w0.heap.size ≤ k) ∧ Upd [b, r, d, m] w0 ww
theorem GoodL.none {t : ByteArray} {m : Nat} {p : Pg} (h : GoodL t m p) : GoodL t m p.none' :=
 ⟨h.tx, h.now, h.ts, h.pl, h.st, h.an, h.mo, Nat.zero_le _, Nat.zero_le _, Or.inl rfl, Or.inl rfl, h.fd, h.rg⟩
theorem LkS.state {w0 ww : World} {q b r d m N : Nat} {t : ByteArray} (h : LkS w0 b r d m t N ww) (hq : ww.cell? ⟨q, 0, none⟩ = some (.pointer (some ⟨b, 0, none⟩))) :
  Calls Tryz.prog 18 #[.pointer (some ⟨q, 0, none⟩)] ww fun e w' => ∃ a c o : Int, ∃ l, e = .returned (.agg #[.string t, .int .i64 a, .int .i64 c, .int .i64 o, .bool l]) ∧ Below ww.heap.size ww w' := by
 obtain ⟨p, f, tv, n, xs, dg, HB, _, _, HR, _, hg, _⟩ := h
 refine Calls.mono (nState q b r d tv dg p ww hq HB HR) ?_
 rintro e w' ⟨rfl, h⟩
 rw [hg.tx]
 exact ⟨_, _, _, _, rfl, h⟩
theorem LkS.below {w0 ww ww' : World} {b r d m N : Nat} {t : ByteArray} (h : LkS w0 b r d m t N ww) (hb : Below ww.heap.size ww ww') : LkS w0 b r d m t N ww' := by
 obtain ⟨p, f, tv, n, xs, dg, h1, h2, h3, h4, h5, h6, h7, h8⟩ := h
 exact ⟨p, f, tv, n, xs, dg, h1.below hb, ownsRow_upd h2 (Upd.of_below (S := []) hb) qi, h3, h4.below hb, h5.below hb, h6, h7, Upd.below h8 hb⟩
theorem LkS.mono {w0 ww : World} {b r d m N M : Nat} {t : ByteArray} (h : LkS w0 b r d m t N ww) (hn : N ≤ M) : LkS w0 b r d m t M ww := by
 obtain ⟨p, f, tv, n, xs, dg, h1, h2, h3, h4⟩ := h
 exact ⟨p, f, tv, n, xs, dg, h1, h2, by omega, h4⟩
theorem LkS.up {w0 ww : World} {b r d m N : Nat} {t : ByteArray} (h : LkS w0 b r d m t N ww) : Upd [b, r, d, m] w0 ww := by
 obtain ⟨_, _, _, _, _, _, _, _, _, _, _, _, _, hup⟩ := h
 exact hup
end Go.Proofs.YtlendfhehhacpaaGreat
