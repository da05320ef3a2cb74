/- A part. -/
import Derived.Test.YtlendfhehhacpaaGreatT31
import Derived.Test.YtlendfhehhacpaaGreatT32
import Derived.Test.YtlendfhehhacpaaGreatT33
set_option linter.unusedVariables false
set_option linter.unusedSimpArgs false
set_option maxRecDepth 100000
set_option maxHeartbeats 8000000
namespace Go.Proofs.YtlendfhehhacpaaGreat
open Go.RowKit Nib Tryz
theorem GivesB.of_rd {f : Nat} {args : Array Value} {r d : Nat} {p p2 : Pg} {O : Int} {E : World → Prop} (h : ∀ ww, RdAt ww r d p → Calls Tryz.prog f args ww fun e w' => e = .returned (.int .i64 O) ∧ RdAt w' r d p2 ∧ Upd [r, d] ww w') (sE : ∀ u v, E u → Upd [r, d] u v → E v) :
  GivesB f args (fun ww => RdAt ww r d p ∧ E ww) (fun ww => RdAt ww r d p2 ∧ E ww) O [r, d] :=
 fun ww hh => Calls.mono (h ww hh.1) (fun _ _ ⟨a, b, c⟩ => ⟨a, ⟨b, sE _ _ hh.2 c⟩, c⟩)
theorem Firm.and {r d : Nat} {p : Pg} {E : World → Prop} (fE : Firm E) : Firm (fun ww => RdAt ww r d p ∧ E ww) := fun _ _ h hb => ⟨h.1.below hb, fE _ _ h.2 hb⟩
theorem Firm.rg {m : Nat} {f : Int → Value} : Firm (fun ww => RgAt ww m f) := fun _ _ h hb => h.below hb
theorem RgAt.upd {S : List Nat} {w w' : World} {m : Nat} {f : Int → Value} (h : RgAt w m f) (hu : Upd S w w') (hm : m ∉ S) : RgAt w' m f := h.of_block (hu.block m h.lt hm)
def k7 : ByteArray := ⟨#[111, 110, 101, 32, 116, 119, 111]⟩
def k3 : ByteArray := ⟨#[116, 119, 111]⟩
def k4 : ByteArray := ⟨#[111, 110, 101, 32]⟩
def f0 : Int → Value := fun _ => .agg #[.string ⟨#[]⟩, .bool false]
def f1 : Int → Value := rgW f0 0 k4 false
structure Lay (b r d m : Nat) : Prop where
 br : b ≠ r
 bd : b ≠ d
 mb : m ≠ b
 mr : m ≠ r
 md : m ≠ d
def P0 (m : Nat) : Pg := newPg k7 m
def P1 (m : Nat) : Pg := { P0 m with verb := 100 }
theorem known_d (b r d m : Nat) (dg : ByteArray) (w : World) (L : Lay b r d m) (HB : BdAt w b r d (.slice none 0 0) dg) (HR : RdAt w r d (P0 m)) (HG : RgAt w m f0) :
  Calls Tryz.prog 38 #[.pointer (some ⟨b, 0, none⟩), .int .u8 100] w fun e w' => e = .returned (.int .i64 0) ∧ RdAt w' r d (P1 m) ∧ RgAt w' m f0 ∧ ∃ tv, BdAt w' b r d tv dg ∧ w'.ownsRow 0 5 1 tv 1 ([100].map (Value.int .u8)) ∧ (∀ k, tv.ownBlock = some k → w.heap.size ≤ k) ∧ Upd [b, r, d] w w' := by
 have sE : ∀ u v, RgAt u m f0 → Upd [r, d] u v → RgAt v m f0 := fun u v h hu => h.upd hu (by simp [L.mr, L.md])
 have HC : GivesB 141 #[.agg #[.pointer (some ⟨r, 0, none⟩)], .int .u8 100] (fun ww => RdAt ww r d (P0 m) ∧ RgAt ww m f0) (fun ww => RdAt ww r d (P1 m) ∧ RgAt ww m f0) 0 [r, d] :=
  GivesB.of_rd (fun ww hh => mCommand_verb r d (P0 m) 100 ww hh (Or.inl rfl)) sE
 have HT : GivesB 137 #[.agg #[.pointer (some ⟨r, 0, none⟩)], .int .u8 100] (fun ww => RdAt ww r d (P0 m) ∧ RgAt ww m f0) (fun ww => RdAt ww r d (P1 m) ∧ RgAt ww m f0) 0 [r, d] :=
  fun ww hh => mTake_cmdB r d (P0 m) 100 0 _ _ [r, d] ww hh (Firm.and Firm.rg) (Firm.and Firm.rg) (fun _ h => h.1) rfl rfl (show isD 0 100 = false by decide) HC
 refine Calls.mono (press_normal_moreB b r d (P0 m) (.slice none 0 0) 0 [] dg 100 _ (fun ww => RdAt ww r d (P1 m) ∧ RgAt ww m f0) [r, d] w HB (World.ownsRow_nil _ _ _ _) ⟨HR, HG⟩ (fun _ h => h.1) (by simp [L.br, L.bd]) (by simp [Value.ownBlock]) (by simp [Value.ownBlock]) qo rfl ?_ (fun ww h1 h2 => bTake_normal_moreB b r d _ dg (P0 m) 100 _ _ [r, d] ww h1 h2 (Firm.and Firm.rg) (Firm.and Firm.rg) (fun _ h => h.1) rfl qd HT)) ?_
 ·intro u v h hu
  exact ⟨h.1.upd hu (by simp [own, Value.ownBlock]; exact fun e => L.br e.symm) (by simp [own, Value.ownBlock]; exact fun e => L.bd e.symm), h.2.upd hu (by simp [own, Value.ownBlock]; exact L.mb)⟩
 ·rintro e w' ⟨rfl, ⟨h1, h2⟩, tv, h3, h4, h5, h6⟩
  refine ⟨rfl, h1, h2, tv, h3, h4, ?_, h6⟩
  intro k hk
  rcases h5 with h5 | ⟨g, h5, h7⟩
  ·rw [h5] at hk; simp [Value.ownBlock] at hk
  ·rw [h5] at hk; injection hk with hk; omega
def P2 (m : Nat) : Pg := { P1 m with t := k3, mode := 0, anchor := 0, pl := clm k3 0 }
theorem known_go (w : World) : qC 169 #[.int .u8 119, .agg #[.string k7, .int .i64 (((0 : Nat) : Int)), .int .i64 (((0 : Nat) : Int)), .bool true, .bool false]] w (.tuple #[.agg #[.int .i64 4, .int .i64 0], .bool true]) := by
 have h := sGo_119 k7 (0 : Nat) (0 : Nat) true false w _ (fun ww => sToWord_verb k7 0 0 false ww qd qd qd)
 have hq : wordQ k7 0 (max 0 1) false true = 4 := by decide
 rw [hq] at h
 exact h
theorem known_taken (w : World) : qC 203 #[.agg #[.string k7, .int .i64 (((0 : Nat) : Int)), .int .i64 (((0 : Nat) : Int)), .bool true, .bool false], .agg #[.int .i64 4, .int .i64 0]] w (.agg #[.int .i64 ((0 : Nat) : Int), .int .i64 ((4 : Nat) : Int), .bool false]) :=
 sTaken_out k7 0 0 4 true false w
theorem known_do (r d m : Nat) (w : World) (L1 : m ≠ r) (L2 : m ≠ d) (HR : RdAt w r d (P1 m)) (HG : RgAt w m f0) :
  Calls Tryz.prog 146 #[.pointer (some ⟨r, 0, none⟩), .int .u8 100, .agg #[.int .i64 ((0 : Nat) : Int), .int .i64 ((4 : Nat) : Int), .bool false]] w fun e w' => e = .returned (.int .i64 2) ∧ (RdAt w' r d (P2 m) ∧ RgAt w' m f1) ∧ Upd [d, m] w w' := by
 have hk : k7.extract 0 0 ++ k7.extract 4 k7.size = k3 := by decide
 have hD : ∀ ww, qC 174 #[.int .u8 100, .string k7, .agg #[.int .i64 ((0 : Nat) : Int), .int .i64 ((4 : Nat) : Int), .bool false], .int .i64 ((0 : Nat) : Int)] ww (.tuple #[.string k3, .int .i64 ((0 : Nat) : Int)]) := by
  intro ww
  have := vDo_delete k7 0 4 ((0 : Nat) : Int) ww qd qo qd
  rw [hk] at this
  exact this
 have h := mDo_write 100 r d m (P1 m) 0 4 false k3 0 f0 w HR HG rfl L1 L2 (show k7.size ≤ 1000 by decide) qd qo (show 4 ≤ k7.size by decide) qo qo (Or.inl rfl) hD
 have ht : tkn k7 0 4 false = k4 := by decide
 refine Calls.mono h ?_
 rintro e w' ⟨rfl, h1, h2, h3⟩
 refine ⟨rfl, ⟨h1, ?_⟩, h3⟩
 have h2' : RgAt w' m (rgW f0 0 (tkn k7 0 4 false) false) := h2
 rw [ht] at h2'
 exact h2'
def P3 (m g cap : Nat) : Pg := { (P2 m).none' with now := k3, back := .slice (some ⟨g, 0, none⟩) 1 cap, forth := .slice none 0 0 }
theorem known_w (b r d m : Nat) (dg : ByteArray) (tv : Value) (w : World) (L : Lay b r d m) (HB : BdAt w b r d tv dg) (HR : RdAt w r d (P1 m)) (HG : RgAt w m f0) (ho : w.ownsRow 0 5 1 tv 1 ([100].map (Value.int .u8))) (t1 : tv.ownBlock ≠ some b) (t2 : tv.ownBlock ≠ some r) (t3 : tv.ownBlock ≠ some d) (t4 : tv.ownBlock ≠ some m) :
  Calls Tryz.prog 38 #[.pointer (some ⟨b, 0, none⟩), .int .u8 119] w fun e w' => e = .returned (.int .i64 2) ∧ ∃ g cap dg', BdAt w' b r d (.slice none 0 0) dg' ∧ RdAt w' r d (P3 m g cap) ∧ RgAt w' m f1 ∧ w'.ownsRow 0 130 3 (.slice (some ⟨g, 0, none⟩) 1 cap) 1 (stp k3 k7) ∧ w.heap.size ≤ g ∧ Upd (b :: d :: ([r, d, m] ++ (own tv ++ []))) w w' := by
 have fA : Firm (fun ww => RdAt ww r d (P1 m) ∧ RgAt ww m f0) := Firm.and Firm.rg
 have fB : Firm (fun ww => RdAt ww r d (P2 m) ∧ RgAt ww m f1) := Firm.and Firm.rg
 have fC : Firm (fun ww => RdAt ww r d (P2 m).none' ∧ RgAt ww m f1) := Firm.and Firm.rg
 have hT : r ∉ [d, m] := by
  have := HR.ne
  simp [this, L.mr.symm]
 have HD : GivesB 146 #[.pointer (some ⟨r, 0, none⟩), .int .u8 (P1 m).verb, .agg #[.int .i64 ((0 : Nat) : Int), .int .i64 ((4 : Nat) : Int), .bool false]] (fun ww => RdAt ww r d (P1 m) ∧ RgAt ww m f0) (fun ww => RdAt ww r d (P2 m) ∧ RgAt ww m f1) 2 [d, m] := fun ww hh => known_do r d m ww L.mr L.md hh.1 hh.2
 have HAr : GivesB 166 #[.pointer (some ⟨r, 0, none⟩), .agg #[.int .i64 4, .int .i64 0], .bool true] (fun ww => RdAt ww r d (P1 m) ∧ RgAt ww m f0) (fun ww => RdAt ww r d (P2 m) ∧ RgAt ww m f1) 2 [d, m] :=
  fun ww hh => mArrive_verb r d (P1 m) 4 0 2 ((0 : Nat) : Int) ((4 : Nat) : Int) false _ _ [d, m] ww hh fA fB (fun _ h => h.1) hT (by intro k hk; simp at hk; rcases hk with hk | hk; (rw [hk]; exact hh.1.dk.lt); (rw [hk]; exact hh.2.lt)) (show 0 ≤ 99 by decide) (show 0 ≤ 99 by decide) (show ¬ (100 : Int) = 0 by decide) (fun w => known_taken w) HD
 have HWy : GivesB 148 #[.pointer (some ⟨r, 0, none⟩), .int .u8 119] (fun ww => RdAt ww r d (P1 m) ∧ RgAt ww m f0) (fun ww => RdAt ww r d (P2 m) ∧ RgAt ww m f1) 2 [d, m] :=
  fun ww hh => mWay_goB r d (P1 m) 119 4 0 2 true _ _ [d, m] ww hh fA fB (fun _ h => h.1) (show 0 ≤ 99 by decide) (show 0 ≤ 99 by decide) qd qd qd qd (fun w => known_go w) HAr
 have HBh : GivesB 140 #[.agg #[.pointer (some ⟨r, 0, none⟩)], .int .u8 119] (fun ww => RdAt ww r d (P1 m) ∧ RgAt ww m f0) (fun ww => RdAt ww r d (P2 m) ∧ RgAt ww m f1) 2 [d, m] :=
  fun ww hh => mBehind_way r d (P1 m) 119 2 _ _ [d, m] ww hh fA fB (fun _ h => h.1) (show ¬ (119 : Int) = 100 by decide) qd qd HWy
 have HTk : GivesB 137 #[.agg #[.pointer (some ⟨r, 0, none⟩)], .int .u8 119] (fun ww => RdAt ww r d (P1 m) ∧ RgAt ww m f0) (fun ww => RdAt ww r d (P2 m) ∧ RgAt ww m f1) 2 [d, m] :=
  fun ww hh => mTake_behind r d (P1 m) 119 2 _ _ [d, m] ww hh fA fB (fun _ h => h.1) rfl (show ¬ (100 : Int) = 0 by decide) (show isD 0 119 = false by decide) HBh
 have HF : Hid (∀ ww, (RdAt ww r d (P2 m) ∧ RgAt ww m f1) → Calls Tryz.prog 65 #[.pointer (some ⟨r, 1, none⟩)] ww fun e w' => e = .returned (.tuple #[]) ∧ (RdAt w' r d (P2 m).none' ∧ RgAt w' m f1) ∧ Upd [r] ww w') :=
  fun ww hh => Calls.mono (mForget r d (P2 m) ww hh.1) (fun _ _ ⟨a, b', c⟩ => ⟨a, ⟨b', hh.2.upd c (by simp [L.mr])⟩, c⟩)
 have HT : TakesB b r d tv dg 119 (fun ww => RdAt ww r d (P1 m) ∧ RgAt ww m f0) (fun ww => RdAt ww r d (P2 m).none' ∧ RgAt ww m f1) 2 (r :: [d, m]) :=
  fun ww h1 h2 => bTake_normal_doneB b r d tv dg (P1 m) 119 2 _ _ _ [d, m] ww h1 h2 fA fB (fun _ h => h.1) rfl qd (by simp [L.bd, L.mb.symm]) qd qd fC (fun _ h => ⟨_, h.1⟩) HF HTk
 refine Calls.mono (press_normal_did b r d (P1 m) (P2 m).none' tv 1 [100] dg 119 0 [] _ (fun ww => RgAt ww m f1) (r :: [d, m]) w HB ho ⟨HR, HG⟩ (fun _ h => h.1) (by simp [L.br, L.bd, L.mb.symm]) t1 t2 t3 (by intro k hk; simp at hk; rcases hk with hk | hk | hk; (rw [hk]; exact t2); (rw [hk]; exact t3); (rw [hk]; exact t4)) qo rfl ?_ (show ¬ (0 : Int) = 1 by decide) (show ¬ k3 = k7 by decide) (show k3.size ≤ 1000 by decide) (show k7.size ≤ 1000 by decide) (fun ww _ => World.ownsRow_nil _ _ _ _) (show Value.ownBlock (.slice none 0 0) ≠ some d by simp [Value.ownBlock]) (show Value.ownBlock (.slice none 0 0) ≠ some r by simp [Value.ownBlock]) (show Value.ownBlock (.slice none 0 0) ≠ some b by simp [Value.ownBlock]) qo L.br L.bd HT) ?_
 ·intro u v h hu
  refine h.upd hu ?_
  show m ∉ b :: d :: (own tv ++ own (.slice none 0 0))
  simp only [List.mem_cons, List.mem_append, mem_own]
  intro hk
  rcases hk with hk | hk | hk | hk
  ·exact L.mb hk
  ·exact L.md hk
  ·exact t4 hk
  ·simp [Value.ownBlock] at hk
 ·rintro e w' ⟨rfl, h1, g, cap, h2, h3, h4, h5, h6⟩
  refine ⟨rfl, g, cap, _, h1, h2, h3, h4, ?_, h6⟩
  rcases h5 with h5 | h5
  ·have h5' : Value.ownBlock (.slice none 0 0) = some g := h5
   simp [Value.ownBlock] at h5'
  ·exact h5
def X3 : Hst := (k3, [mkS k3 k7], [])
theorem X3_back : (wlkN (min (max 0 1) X3.2.1.length) X3).1 = k7 := by decide
def Back7 (r d m : Nat) (ww : World) : Prop := ∃ p, RdAt ww r d p ∧ p.t = k7 ∧ p.now = k7 ∧ p.mode = 0 ∧ p.regs = .map (some m) ∧ RgAt ww m f1
theorem known_u (b r d m g cap : Nat) (dg : ByteArray) (w : World) (L : Lay b r d m) (HB : BdAt w b r d (.slice none 0 0) dg) (HR : RdAt w r d (P3 m g cap)) (HG : RgAt w m f1) (ho : w.ownsRow 0 130 3 (.slice (some ⟨g, 0, none⟩) 1 cap) 1 (stp k3 k7)) (g1 : g ≠ r) (g2 : g ≠ d) :
  Calls Tryz.prog 38 #[.pointer (some ⟨b, 0, none⟩), .int .u8 117] w fun e w' => e = .returned (.int .i64 1) ∧ BdAt w' b r d (.slice none 0 0) dg ∧ Back7 r d m w' ∧ Upd [b, r, d] w w' := by
 have hA0 : ∀ ww, (RdAt ww r d (P3 m g cap) ∧ ww.ownsRow 0 130 3 (.slice (some ⟨g, 0, none⟩) 1 cap) 1 (stp k3 k7) ∧ RgAt ww m f1) → HsAt ww ww r d g cap (P3 m g cap) X3 (P3 m g cap).forth := by
  intro ww hh
  have lg := (hh.2.1.lt g rfl).2
  exact ⟨hh.1, hh.2.1, World.ownsRow_nil _ _ _ _, g2, g1, (show Value.ownBlock (.slice none 0 0) ≠ some d by simp [Value.ownBlock]), (show Value.ownBlock (.slice none 0 0) ≠ some r by simp [Value.ownBlock]), (show Value.ownBlock (.slice none 0 0) ≠ some g by simp [Value.ownBlock]), lg, Or.inl rfl, Upd.refl _ _⟩
 have fA : Firm (fun ww => RdAt ww r d (P3 m g cap) ∧ ww.ownsRow 0 130 3 (.slice (some ⟨g, 0, none⟩) 1 cap) 1 (stp k3 k7) ∧ RgAt ww m f1) := fun _ _ h hb => ⟨h.1.below hb, ownsRow_upd h.2.1 (Upd.of_below (S := []) hb) qi, h.2.2.below hb⟩
 have fB : Firm (Back7 r d m) := fun _ _ ⟨p, h1, h2, h3, h4, h5, h6⟩ hb => ⟨p, h1.below hb, h2, h3, h4, h5, h6.below hb⟩
 have HC : GivesB 141 #[.agg #[.pointer (some ⟨r, 0, none⟩)], .int .u8 117] (fun ww => RdAt ww r d (P3 m g cap) ∧ ww.ownsRow 0 130 3 (.slice (some ⟨g, 0, none⟩) 1 cap) 1 (stp k3 k7) ∧ RgAt ww m f1) (Back7 r d m) 1 [d] := by
  intro ww hh
  refine Calls.mono (mCommand_u r d g cap (P3 m g cap) X3 ww (hA0 ww hh) qd qd (by refine ⟨by decide, by decide, by decide, by decide, trivial⟩) qd (show k3.size ≤ 1000 by decide) (show 0 ≤ 99 by decide) (show 0 ≤ 99 by decide)) ?_
  rintro e w' ⟨rfl, ov, h1⟩
  have hu : Upd [d] ww w' := h1.up
  have hc0 : max (cnt (P3 m g cap)) 1 = max 0 1 := rfl
  rw [hc0] at h1
  have h2 := h1.rd
  rw [X3_back] at h2
  refine ⟨rfl, ⟨_, h2, ?_, rfl, ?_, ?_, hh.2.2.upd hu (by simp [L.md])⟩, hu⟩
  ·show (goT (P3 m g cap) k7).t = k7
   unfold goT
   rw [if_neg (show ¬ k7 = (P3 m g cap).t from (show ¬ k7 = k3 by decide))]
  ·show (goT (P3 m g cap) k7).mode = 0
   unfold goT
   rw [if_neg (show ¬ k7 = (P3 m g cap).t from (show ¬ k7 = k3 by decide))]
   rfl
  ·show (goT (P3 m g cap) k7).regs = .map (some m)
   unfold goT
   rw [if_neg (show ¬ k7 = (P3 m g cap).t from (show ¬ k7 = k3 by decide))]
   rfl
 have HTk : GivesB 137 #[.agg #[.pointer (some ⟨r, 0, none⟩)], .int .u8 117] (fun ww => RdAt ww r d (P3 m g cap) ∧ ww.ownsRow 0 130 3 (.slice (some ⟨g, 0, none⟩) 1 cap) 1 (stp k3 k7) ∧ RgAt ww m f1) (Back7 r d m) 1 [d] :=
  fun ww hh => mTake_cmdB r d (P3 m g cap) 117 1 _ _ [d] ww hh fA fB (fun _ h => h.1) rfl rfl (show isD 0 117 = false by decide) HC
 have HF : Hid (∀ ww, Back7 r d m ww → Calls Tryz.prog 65 #[.pointer (some ⟨r, 1, none⟩)] ww fun e w' => e = .returned (.tuple #[]) ∧ Back7 r d m w' ∧ Upd [r] ww w') :=
  fun ww ⟨p, h1, h2, h3, h4, h5, h6⟩ => Calls.mono (mForget r d p ww h1) (fun _ _ ⟨a, b', c⟩ => ⟨a, ⟨_, b', h2, h3, h4, h5, h6.upd c (by simp [L.mr])⟩, c⟩)
 have HT : TakesB b r d (.slice none 0 0) dg 117 (fun ww => RdAt ww r d (P3 m g cap) ∧ ww.ownsRow 0 130 3 (.slice (some ⟨g, 0, none⟩) 1 cap) 1 (stp k3 k7) ∧ RgAt ww m f1) (Back7 r d m) 1 (r :: [d]) :=
  fun ww h1 h2 => bTake_normal_doneB b r d _ dg (P3 m g cap) 117 1 _ _ _ [d] ww h1 h2 fA fB (fun _ h => h.1) rfl qd (by simp [L.bd]) qd qd fB (fun _ ⟨p, h, _⟩ => ⟨p, h⟩) HF HTk
 refine Calls.mono (press_normal_doneB b r d (P3 m g cap) (.slice none 0 0) 0 [] dg 117 1 _ (Back7 r d m) (r :: [d]) w HB (World.ownsRow_nil _ _ _ _) ⟨HR, ho, HG⟩ (fun _ h => h.1) (by simp [L.br, L.bd]) (by simp [Value.ownBlock]) (by simp [Value.ownBlock]) qo rfl ?_ fB (fun ww ⟨p, h1, h2, h3, h4, h5, h6⟩ => ⟨p, h1, by rw [h4]; decide, by rw [h2, h3]⟩) L.br L.bd qd qd HT) ?_
 ·rintro u v ⟨p, h1, h2, h3, h4, h5, h6⟩ hu
  exact ⟨p, h1.upd hu (by simp [own, Value.ownBlock]; exact fun e => L.br e.symm) (by simp [own, Value.ownBlock]; exact fun e => L.bd e.symm), h2, h3, h4, h5, h6.upd hu (by simp [own, Value.ownBlock]; exact L.mb)⟩
 ·rintro e w' ⟨rfl, h1, h2, h3⟩
  exact ⟨rfl, h2, h1, h3⟩
structure GoodL (t : ByteArray) (m : Nat) (p : Pg) : Prop where
 tx : p.t = t
 now : p.now = t
 ts : t.size ≤ 1000
 pl : p.pl ≤ t.size
 st : p.pl ≤ lst t p.pl
 an : p.anchor ≤ t.size
 mo : p.mode = 0 ∨ p.mode = 2 ∨ p.mode = 3
 n : p.n ≤ 99
 bh : p.behind ≤ 99
 vb : p.verb = 0 ∨ (p.verb = 121 ∧ p.mode = 0)
 pt : p.part = 0 ∨ isFind p.part = true ∨ p.part = 103
 fd : p.fnd = 0 ∨ isFind p.fnd = true
 rg : p.regs = .map (some m)
theorem cnt_le {p : Pg} (h1 : p.n ≤ 99) (h2 : p.behind ≤ 99) : cnt p ≤ 99 := by
 unfold cnt
 split
 ·rename_i h; rcases h with h | h <;> omega
 ·omega
def LB (r d m : Nat) (t : ByteArray) (a c : Int) (ww : World) : Prop := ∃ p f, RdAt ww r d p ∧ RgAt ww m f ∧ GoodL t m p ∧ p.fnd = a ∧ p.findC = c
theorem LB.firm {r d m : Nat} {t : ByteArray} {a c : Int} : Firm (LB r d m t a c) := fun _ _ ⟨p, f, h1, h2, h3⟩ hb => ⟨p, f, h1.below hb, h2.below hb, h3⟩
theorem LB.find {r d m : Nat} {t : ByteArray} {a c : Int} : HasF (LB r d m t a c) r d a c := fun _ ⟨_, _, h1, _, _, h4, h5⟩ => ⟨h1.bg.c0, h4 ▸ h1.dk.c8, h5 ▸ h1.dk.c9⟩
abbrev LA (r d m : Nat) (p : Pg) (f : Int → Value) : World → Prop := fun ww => RdAt ww r d p ∧ RgAt ww m f
theorem LA.firm {r d m : Nat} {p : Pg} {f : Int → Value} : Firm (LA r d m p f) := Firm.and Firm.rg
theorem mDo_nothing (v : Int) (r : Nat) (i : Int) (w : World) (hv : ¬ v = 99) :
  qC 146 #[.pointer (some ⟨r, 0, none⟩), .int .u8 v, .agg #[.int .i64 i, .int .i64 i, .bool false]] w (.int .i64 4) := by
 have HN : qH 172 #[.agg #[.int .i64 i, .int .i64 i, .bool false]] (.bool true) := by
  intro ww
  have := tNothing_any i i false ww
  rw [show ((i == i) && !false) = true by simp] at this
  exact this
 have v99 : (v == 99) = false := by simp [hv]
 have v99' : (v != 99) = true := by simp [hv]
 clear hv
 go_enter func146, ntmps146
 go_wp2_with fail
 refine (HN.out _).mono ?_
 rintro e w1 ⟨rfl, h1⟩
 obtain ⟨hc1, hf1, hz1⟩ := qb h1
 try simp at hz1
 go_wp2
 go_ret
 refine ⟨rfl, ?_⟩
 repeat exact qB
theorem GoodL.done {t : ByteArray} {m : Nat} {p : Pg} (h : GoodL t m p) (q : Nat) (hq : q ≤ t.size) : GoodL t m { p with t := t, mode := 0, anchor := 0, pl := clm t q } :=
 ⟨rfl, h.now, h.ts, clm_in hq, clm_settled hq, Nat.zero_le _, Or.inl rfl, h.n, h.bh, by
  rcases h.vb with v | v
  ·exact Or.inl v
  ·exact Or.inr ⟨v.1, rfl⟩, h.pt, h.fd, h.rg⟩
theorem Firm.drewAt {A : World → Prop} {w : World} (fA : Firm A) (h : A w) : A w.drew := fA _ _ h (Below.refl _ _).drew
theorem Firm.belowAt {A : World → Prop} {w w' : World} (fA : Firm A) (hb : Below w.heap.size w w') (h : A w) : A w' := fA _ _ h hb
theorem qt41 {P : Prop} (h : P := by
  go_wp2
  go_ret
  refine ⟨rfl, ?_, ?_⟩
  ·exact (fB _ _ h3 qB)
  ·repeat (with_reducible first | exact Upd.refl _ _ | refine Upd.trans ?_ u3 | refine Upd.below ?_ h2 | refine Upd.below ?_ h1 | refine Upd.setCell ?_ (Or.inl hd) _ | refine Upd.drew ?_ | refine Upd.alloc ?_ _)
 ) : P := h
theorem mComplete_findB (r d : Nat) (p : Pg) (key X K O : Int) (Z : Bool) (A A1 B : World → Prop) (T : List Nat) (w : World) (hA : A w) (fA : Firm A) (fA1 : Firm A1) (fB : Firm B) (hr : HasR A r d p) (hr1 : HasR A1 r d { p with fnd := p.part, findC := key }) (hf : HasF B r d p.part key) (hd : d ∈ T) (hn : p.n ≤ 99) (hb : p.behind ≤ 99) (hp : isFind p.part = true)
  (HP : Hid (∀ ww, A ww → A1 ((ww.setCell ⟨d, 8, none⟩ (.int .u8 p.part)).setCell ⟨d, 9, none⟩ (.int .u8 key))))
  (HG : qH 167 #[.agg #[.int .u8 p.part, .int .u8 key], .agg #[.string p.t, .int .i64 (p.pl), .int .i64 (cnt p), .bool (p.verb != 0), .bool (p.verb == 99)]] (.tuple #[.agg #[.int .i64 X, .int .i64 K], .bool Z]))
  (HA : GivesB 166 #[.pointer (some ⟨r, 0, none⟩), .agg #[.int .i64 X, .int .i64 K], .bool Z] A1 B O T) :
  Calls Tryz.prog 145 #[.pointer (some ⟨r, 0, none⟩), .int .u8 key] w fun e w' => e = .returned (.int .i64 O) ∧ B w' ∧ Upd T w w' := by
 have HS : Hid (∀ ww, A1 ww → qC 168 #[.pointer (some ⟨r, 0, none⟩)] ww (.agg #[.string p.t, .int .i64 (p.pl), .int .i64 (cnt p), .bool (p.verb != 0), .bool (p.verb == 99)])) := fun ww hh => mStart r d { p with fnd := p.part, findC := key } ww (hr1 ww hh) hn hb
 have h := hr w hA
 obtain ⟨c0, c1, c2, c3, c4, c5, c6, c7, c8, c9, fz, lt⟩ := h.dk
 obtain ⟨b0, b1, b2, b3, b4, b5, bz, bl⟩ := h.bg
 have nrd1 : ¬ r = d := h.ne
 have nrd2 : ¬ d = r := Ne.symm h.ne
 clear c0 c1 c2 c3 c4 c5 c6 c7 b1 b2 b3 b4 h hr1 hr
 simp only [isFind, Bool.or_eq_true, beq_iff_eq] at hp
 generalize p.part = part at *
 generalize p.t = TT at *
 generalize p.pl = PL at *
 generalize cnt p = N at *
 generalize (p.verb != 0) = V at *
 generalize (p.verb == 99) = C at *
 rcases hp with ((hp | hp) | hp) | hp
 ·subst hp
  go_enter func145, ntmps145
  go_wp2_with fail
  go_region_held3 (fun ww => ww.cell? ⟨r, 0, none⟩ = some (.pointer (some ⟨d, 0, none⟩)) ∧ ww.cell? ⟨r, 5, none⟩ = some (.int .u8 102)) (exact qK) (fail)
  go_wp2_with fail
  go_region_held3 (fun ww => ww.cell? ⟨r, 0, none⟩ = some (.pointer (some ⟨d, 0, none⟩)) ∧ ww.cell? ⟨d, 8, none⟩ = some (.int .u8 102) ∧ ww.cell? ⟨d, 9, none⟩ = some (.int .u8 key)) (exact qK) (first | (go_at_call 168; refine Calls.mono (HS.out _ (by (repeat (with_reducible first | exact hA | refine HP.out _ ?_ | refine fA1.drewAt ?_ | refine fA.drewAt ?_)))) ?_; rintro r1 w1 ⟨rfl, h1⟩; have hz1 := h1.size; (try simp at hz1); (try have ⟨hl1_0, hk1_0⟩ := qL d w1.heap.size); (try have ⟨hl1_1, hk1_1⟩ := qL r w1.heap.size)) | (go_at_call 167; refine Calls.mono (HG.out _) ?_; rintro r2 w2 ⟨rfl, h2⟩; have hz2 := h2.size; (try simp at hz2); (try have ⟨hl2_0, hk2_0⟩ := qL d w2.heap.size); (try have ⟨hl2_1, hk2_1⟩ := qL r w2.heap.size)) | (go_at_call 166; refine Calls.mono (HA.out _ (by (repeat (with_reducible first | exact hA | refine HP.out _ ?_ | refine fA1.belowAt h2 ?_ | refine fA1.belowAt h1 ?_ | refine fA1.drewAt ?_ | refine fA.drewAt ?_)))) ?_; rintro r3 w3 ⟨rfl, h3, u3⟩; have hz3 := u3.size; (try simp at hz3); obtain ⟨g0, g8, g9⟩ := hf w3 h3))
  exact qt41
 ·subst hp
  go_enter func145, ntmps145
  go_wp2_with fail
  go_region_held3 (fun ww => ww.cell? ⟨r, 0, none⟩ = some (.pointer (some ⟨d, 0, none⟩)) ∧ ww.cell? ⟨r, 5, none⟩ = some (.int .u8 116)) (exact qK) (fail)
  go_wp2_with fail
  go_region_held3 (fun ww => ww.cell? ⟨r, 0, none⟩ = some (.pointer (some ⟨d, 0, none⟩)) ∧ ww.cell? ⟨d, 8, none⟩ = some (.int .u8 116) ∧ ww.cell? ⟨d, 9, none⟩ = some (.int .u8 key)) (exact qK) (first | (go_at_call 168; refine Calls.mono (HS.out _ (by (repeat (with_reducible first | exact hA | refine HP.out _ ?_ | refine fA1.drewAt ?_ | refine fA.drewAt ?_)))) ?_; rintro r1 w1 ⟨rfl, h1⟩; have hz1 := h1.size; (try simp at hz1); (try have ⟨hl1_0, hk1_0⟩ := qL d w1.heap.size); (try have ⟨hl1_1, hk1_1⟩ := qL r w1.heap.size)) | (go_at_call 167; refine Calls.mono (HG.out _) ?_; rintro r2 w2 ⟨rfl, h2⟩; have hz2 := h2.size; (try simp at hz2); (try have ⟨hl2_0, hk2_0⟩ := qL d w2.heap.size); (try have ⟨hl2_1, hk2_1⟩ := qL r w2.heap.size)) | (go_at_call 166; refine Calls.mono (HA.out _ (by (repeat (with_reducible first | exact hA | refine HP.out _ ?_ | refine fA1.belowAt h2 ?_ | refine fA1.belowAt h1 ?_ | refine fA1.drewAt ?_ | refine fA.drewAt ?_)))) ?_; rintro r3 w3 ⟨rfl, h3, u3⟩; have hz3 := u3.size; (try simp at hz3); obtain ⟨g0, g8, g9⟩ := hf w3 h3))
  exact qt41
 ·subst hp
  go_enter func145, ntmps145
  go_wp2_with fail
  go_region_held3 (fun ww => ww.cell? ⟨r, 0, none⟩ = some (.pointer (some ⟨d, 0, none⟩)) ∧ ww.cell? ⟨r, 5, none⟩ = some (.int .u8 70)) (exact qK) (fail)
  go_wp2_with fail
  go_region_held3 (fun ww => ww.cell? ⟨r, 0, none⟩ = some (.pointer (some ⟨d, 0, none⟩)) ∧ ww.cell? ⟨d, 8, none⟩ = some (.int .u8 70) ∧ ww.cell? ⟨d, 9, none⟩ = some (.int .u8 key)) (exact qK) (first | (go_at_call 168; refine Calls.mono (HS.out _ (by (repeat (with_reducible first | exact hA | refine HP.out _ ?_ | refine fA1.drewAt ?_ | refine fA.drewAt ?_)))) ?_; rintro r1 w1 ⟨rfl, h1⟩; have hz1 := h1.size; (try simp at hz1); (try have ⟨hl1_0, hk1_0⟩ := qL d w1.heap.size); (try have ⟨hl1_1, hk1_1⟩ := qL r w1.heap.size)) | (go_at_call 167; refine Calls.mono (HG.out _) ?_; rintro r2 w2 ⟨rfl, h2⟩; have hz2 := h2.size; (try simp at hz2); (try have ⟨hl2_0, hk2_0⟩ := qL d w2.heap.size); (try have ⟨hl2_1, hk2_1⟩ := qL r w2.heap.size)) | (go_at_call 166; refine Calls.mono (HA.out _ (by (repeat (with_reducible first | exact hA | refine HP.out _ ?_ | refine fA1.belowAt h2 ?_ | refine fA1.belowAt h1 ?_ | refine fA1.drewAt ?_ | refine fA.drewAt ?_)))) ?_; rintro r3 w3 ⟨rfl, h3, u3⟩; have hz3 := u3.size; (try simp at hz3); obtain ⟨g0, g8, g9⟩ := hf w3 h3))
  exact qt41
 ·subst hp
  go_enter func145, ntmps145
  go_wp2_with fail
  go_region_held3 (fun ww => ww.cell? ⟨r, 0, none⟩ = some (.pointer (some ⟨d, 0, none⟩)) ∧ ww.cell? ⟨r, 5, none⟩ = some (.int .u8 84)) (exact qK) (fail)
  go_wp2_with fail
  go_region_held3 (fun ww => ww.cell? ⟨r, 0, none⟩ = some (.pointer (some ⟨d, 0, none⟩)) ∧ ww.cell? ⟨d, 8, none⟩ = some (.int .u8 84) ∧ ww.cell? ⟨d, 9, none⟩ = some (.int .u8 key)) (exact qK) (first | (go_at_call 168; refine Calls.mono (HS.out _ (by (repeat (with_reducible first | exact hA | refine HP.out _ ?_ | refine fA1.drewAt ?_ | refine fA.drewAt ?_)))) ?_; rintro r1 w1 ⟨rfl, h1⟩; have hz1 := h1.size; (try simp at hz1); (try have ⟨hl1_0, hk1_0⟩ := qL d w1.heap.size); (try have ⟨hl1_1, hk1_1⟩ := qL r w1.heap.size)) | (go_at_call 167; refine Calls.mono (HG.out _) ?_; rintro r2 w2 ⟨rfl, h2⟩; have hz2 := h2.size; (try simp at hz2); (try have ⟨hl2_0, hk2_0⟩ := qL d w2.heap.size); (try have ⟨hl2_1, hk2_1⟩ := qL r w2.heap.size)) | (go_at_call 166; refine Calls.mono (HA.out _ (by (repeat (with_reducible first | exact hA | refine HP.out _ ?_ | refine fA1.belowAt h2 ?_ | refine fA1.belowAt h1 ?_ | refine fA1.drewAt ?_ | refine fA.drewAt ?_)))) ?_; rintro r3 w3 ⟨rfl, h3, u3⟩; have hz3 := u3.size; (try simp at hz3); obtain ⟨g0, g8, g9⟩ := hf w3 h3))
  exact qt41
