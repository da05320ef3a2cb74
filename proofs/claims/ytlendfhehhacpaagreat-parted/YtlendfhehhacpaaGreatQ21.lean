/- A part. -/
import Derived.Test.YtlendfhehhacpaaGreatQ14
import Derived.Test.YtlendfhehhacpaaGreatQ15
import Derived.Test.YtlendfhehhacpaaGreatQ18
set_option linter.unusedVariables false
set_option linter.unusedSimpArgs false
set_option maxRecDepth 100000
set_option maxHeartbeats 8000000
namespace Go.Proofs.YtlendfhehhacpaaGreat
open Go.RowKit Nib Tryz
theorem sWordStep_any (s : ByteArray) (r : Nat) (g : Bool) (w : World) (hs : s.size ≤ 1000) (hr : r ≤ s.size) :
  qC 249 #[.string s, .int .i64 r, .bool g] w (.int .i64 (wstep s g r)) := by
 have hw := wfrom_le (g := g) hr
 have HI : qH 282 #[.string s, .int .i64 (wfrom s r g : Nat), .bool true] (.int .i64 (wstep s g r)) := by
  intro ww
  refine sNextInk_any s (wfrom s r g) true (wgap s r) ww hs hw ?_ ?_ ?_
  ·intro i h; exact wgap1 s r i h
  ·intro i _ _ h h2
   refine wgap2 s r i g h ?_
   rcases h2 with h2 | h2 | h2
   ·exact absurd h2 qi
   ·exact Or.inl h2
   ·exact Or.inr h2
  ·intro _ i h h2; exact wgap3 s r i g h h2
 have HK : Hid (∀ ww, Calls Tryz.prog 247 #[.string s, .int .i64 r] ww fun e w' => e = .returned (.bool (decide (r < s.size) && !spc (bt s r))) ∧ w' = ww) := fun ww => sHasInk_any s r r ww hs rfl hr
 generalize wstep s g r = X at *
 by_cases hk : r < s.size ∧ spc (bt s r) = false
 ·have e1 : (decide (r < s.size) && !spc (bt s r)) = true := by rw [hk.2, decide_eq_true hk.1]; rfl
  have e2 : wfrom s r g = wrun s r g := by unfold wfrom; rw [if_pos hk]
  rw [e1] at HK
  rw [e2] at HI
  have hnl : bt s r ≠ 10 := by have := spc_nl_f hk.2; unfold Nib.nl at this; simpa using this
  have HR : qH 256 #[.string s, .int .i64 r, .bool g] (.agg #[.int .i64 (runB s r g), .int .i64 (wrun s r g)]) := fun ww => tRun_any s r r g ww hs rfl hk.1 hnl
  clear e1 e2 hk hnl hw
  have hx := ix1 (runB s r g) (wrun s r g)
  generalize runB s r g = A at *
  generalize wrun s r g = B at *
  go_enter func249, ntmps249
  go_wp2_with fail
  refine (HK.out _).mono ?_
  rintro e w' ⟨rfl, rfl⟩
  go_wp2_with fail
  refine (HR.out _).mono ?_
  rintro e w1 ⟨rfl, h1⟩
  obtain ⟨hc1, hf1, hz1⟩ := qb h1
  try simp at hz1
  go_wp2_with fail
  refine (HI.out _).mono ?_
  rintro e w2 ⟨rfl, h2⟩
  obtain ⟨hc2, hf2, hz2⟩ := qb h2
  try simp at hz2
  go_wp2
  all_goals
   first
    | (exact qV (.int .i64 X) (by simp [results, results249, go_sem]) rfl)
 ·have e1 : (decide (r < s.size) && !spc (bt s r)) = false := by
   cases hs : spc (bt s r) with
   | true => simp
   | false => rw [hs] at hk; simp only [and_true] at hk; simp [hk]
  have e2 : wfrom s r g = r := by unfold wfrom; rw [if_neg hk]
  rw [e1] at HK
  rw [e2] at HI
  clear e1 e2 hk hw
  go_enter func249, ntmps249
  go_wp2_with fail
  refine (HK.out _).mono ?_
  rintro e w' ⟨rfl, rfl⟩
  go_wp2_with fail
  refine (HI.out _).mono ?_
  rintro e w2 ⟨rfl, h2⟩
  obtain ⟨hc2, hf2, hz2⟩ := qb h2
  try simp at hz2
  go_wp2
  all_goals
   first
    | (exact qV (.int .i64 X) (by simp [results, results249, go_sem]) rfl)
theorem sWordEnd_any (s : ByteArray) (r : Nat) (g : Bool) (w : World) (hs : s.size ≤ 1000) (hr : r ≤ s.size) :
  qC 252 #[.string s, .int .i64 r, .bool g] w (.int .i64 (wes s g r)) := by
 by_cases he : r = s.size
 ·subst he
  rw [wes_end]
  go_enter func252, ntmps252
  go_wp2_with fail
  refine (tEnd_any s _).mono ?_
  rintro e w' ⟨rfl, rfl⟩
  go_wp2
  all_goals
   first
    | (exact qV (.int .i64 s.size) (by simp [results, results252, go_sem]) rfl)
 ·have hlt : r < s.size := by omega
  have HI : qH 282 #[.string s, .int .i64 ((r : Int) + 1), .bool false] (.int .i64 (Nib.up (Nib.sp s) s.size (r + 1) : Nat)) := by
   intro ww
   refine sNextInk_any s (r + 1) false (Nib.sp s) ww hs qo ?_ ?_ ?_
   ·intro i h; exact h
   ·intro i _ _ h _; exact h
   ·intro h; exact absurd h qi
  have hle : Nib.up (Nib.sp s) s.size (r + 1) ≤ s.size := up_le qo
  rw [wes_eq hlt]
  have hne : ((r : Int) == (s.size : Int)) = false := by simp; omega
  clear he
  by_cases hq : Nib.up (Nib.sp s) s.size (r + 1) = s.size
  ·rw [if_pos hq]
   rw [hq] at HI
   clear hq hle
   go_enter func252, ntmps252
   go_wp2_with fail
   refine (tEnd_any s _).mono ?_
   rintro e w' ⟨rfl, rfl⟩
   go_wp2_with fail
   refine (HI.out _).mono ?_
   rintro e w1 ⟨rfl, h1⟩
   obtain ⟨hc1, hf1, hz1⟩ := qb h1
   try simp at hz1
   go_wp2_with fail
   refine (tEnd_any s _).mono ?_
   rintro e w' ⟨rfl, rfl⟩
   go_wp2
   all_goals
    first
     | (exact qV (.int .i64 r) (by simp [results, results252, go_sem]) rfl)
  ·rw [if_neg hq]
   have hql : Nib.up (Nib.sp s) s.size (r + 1) < s.size := by omega
   have hsp : Nib.sp s (Nib.up (Nib.sp s) s.size (r + 1)) = false := up_end hql
   generalize Nib.up (Nib.sp s) s.size (r + 1) = q at *
   have hnl : bt s q ≠ 10 := by have := spc_nl_f (s := s) (i := q) hsp; unfold Nib.nl at this; simpa using this
   have HR : qH 256 #[.string s, .int .i64 q, .bool g] (.agg #[.int .i64 (runB s q g), .int .i64 (wrun s q g)]) := fun ww => tRun_any s q q g ww hs rfl hql hnl
   have hgt := wrun_gt (g := g) hql
   have hwl := wrun_le (g := g) (show q ≤ s.size by omega)
   have hx := ix1 (runB s q g) (wrun s q g)
   clear hsp hnl
   generalize runB s q g = A at *
   generalize wrun s q g = B at *
   have hne2 : ((q : Int) == (s.size : Int)) = false := by simp; omega
   go_enter func252, ntmps252
   go_wp2_with fail
   refine (tEnd_any s _).mono ?_
   rintro e w' ⟨rfl, rfl⟩
   go_wp2_with fail
   refine (HI.out _).mono ?_
   rintro e w1 ⟨rfl, h1⟩
   obtain ⟨hc1, hf1, hz1⟩ := qb h1
   try simp at hz1
   go_wp2_with fail
   refine (tEnd_any s _).mono ?_
   rintro e w' ⟨rfl, rfl⟩
   go_wp2_with fail
   refine (HR.out _).mono ?_
   rintro e w2 ⟨rfl, h2⟩
   obtain ⟨hc2, hf2, hz2⟩ := qb h2
   try simp at hz2
   go_wp2
   all_goals
    first
     | (exact qV (.int .i64 ((B : Int) - 1)) (by simp [results, results252, go_sem]) (ret_int qo))
theorem sToWordEnd_any (s : ByteArray) (p n : Nat) (v c g : Bool) (w : World) (hs : s.size ≤ 1000) (hp : p ≤ s.size) (hn : n ≤ 99) :
  qC 210 #[.agg #[.string s, .int .i64 (p), .int .i64 (n), .bool v, .bool c], .bool g] w (.tuple #[.agg #[.int .i64 (wayX (endWay s g (max n 1) (p : Int))), .int .i64 (wayK (endWay s g (max n 1) (p : Int)))], .bool (wayZ (endWay s g (max n 1) (p : Int)))]) := by
 have HP : Hid (∀ (q : Nat), q ≤ s.size → ∀ ww, qC 252 #[.string s, .int .i64 q, .bool g] ww (.int .i64 (wes s g q))) := fun q hq ww => sWordEnd_any s q g ww hs hq
 have HN : qH 241 #[.agg #[.string s, .int .i64 (p), .int .i64 (n), .bool v, .bool c]] (.int .i64 ((max n 1 : Nat) : Int)) := by
  exact qt46
 have hN1 : 1 ≤ max n 1 := by omega
 have hN2 : max n 1 ≤ 99 := by omega
 generalize max n 1 = N at *
 have HU : qH 240 #[.agg #[.string s, .int .i64 (p), .int .i64 (n), .bool v, .bool c], .int .i64 (itr (wes s g) N p : Nat), .int .i64 1] (.tuple #[.agg #[.int .i64 (wayX (endWay s g N (p : Int))), .int .i64 (wayK (endWay s g N (p : Int)))], .bool (wayZ (endWay s g N (p : Int)))]) := by
  intro ww
  refine sUnless_way s p n _ 1 v c ww ?_
  have := endWay_itr s g p N hN1
  exact ⟨this.1.symm, fun h => ⟨(this.2 (this.1.trans h)).1.symm, (this.2 (this.1.trans h)).2.symm⟩⟩
 generalize endWay s g N (p : Int) = R at *
 go_enter func210, ntmps210
 have F : Five ((w.alloc (.cells #[.string s, .int .i64 (p), .int .i64 (n), .bool v, .bool c] 206)).alloc (.cells #[.int .i64 0, .int .i64 0] 202)) w.heap.size s p n v c := Five.alloc (Five.new _ _ _ _ _ _ _) _
 have RB : Two ((w.alloc (.cells #[.string s, .int .i64 (p), .int .i64 (n), .bool v, .bool c] 206)).alloc (.cells #[.int .i64 0, .int .i64 0] 202)) (w.heap.size + 1) 0 0 := qN
 go_wp2_with fail
 refine (HN.out _).mono ?_
 rintro r1 w1 ⟨rfl, h1⟩
 obtain ⟨hc1, hf1, hz1⟩ := qb h1
 (try simp at hz1)
 have F1 : Five w1 (w.heap.size) s p n v c := qF
 have ⟨F1_0, F1_1, F1_2, F1_3, F1_4, F1_z, F1_l⟩ := F1
 have RB1 : Two w1 (w.heap.size + 1) (0) (0) := qTw
 have ⟨RB1_0, RB1_1, RB1_z, RB1_l⟩ := RB1
 go_wp2
 go_loopw [6, 11] (fun q i wr => ∃ k : Nat, k ≤ N ∧ q = .int .i64 (itr (wes s g) k p : Nat) ∧ i = .int .i64 k ∧ Five wr w.heap.size s p n v c ∧ Two wr (w.heap.size + 1) 0 0 ∧ Below w.heap.size w wr) (fun _ i _ => N - (intOf i).toNat)
 case atStart =>
  refine ⟨0, by omega, rfl, rfl, F1, RB1, ?_⟩
  repeat exact qB
 case round =>
  clear F RB h1 hc1 hf1 F1_0 F1_1 F1_2 F1_3 F1_4 F1_z F1_l RB1_0 RB1_1 RB1_z RB1_l
  obtain ⟨k, hk, rfl, rfl, F, RB, hB⟩ := hrel
  have hq := itr_wes_le (g := g) hp k
  have ⟨f0, f1, f2, f3, f4, fz, fl⟩ := F
  have r0 := (RB).c0
  have r1 := (RB).c1
  have rz := (RB).fz
  have rl := (RB).lt
  have hzz := hB.size
  by_cases hlt : k < N
  ·have HS : qH 252 #[.string s, .int .i64 (itr (wes s g) k p : Nat), .bool g] (.int .i64 (itr (wes s g) (k + 1) p : Nat)) := fun ww => HP.out _ hq ww
   generalize hA : itr (wes s g) (k + 1) p = A at *
   exact qt35
  ·have ek : k = N := by omega
   subst ek
   generalize itr (wes s g) k p = A at *
   go_wp2_with fail
   refine (HU.out _).mono ?_
   rintro r2 w2 ⟨rfl, h2⟩
   obtain ⟨hc2, hf2, hz2⟩ := qb h2
   (try simp at hz2)
   have RB2 : Two w2 (w.heap.size + 1) (0) (0) := qTw
   have ⟨RB2_0, RB2_1, RB2_z, RB2_l⟩ := RB2
   go_wp2
   all_goals
    first
     | (exact qV (.tuple #[.agg #[.int .i64 (wayX (R)), .int .i64 (wayK (R))], .bool (wayZ (R))]) (by simp [results, results210, go_sem, RB2_0, RB2_1, RB2_z, RB2_l]) rfl)
theorem bTake_normal_moreB (b r d : Nat) (tv : Value) (dg : ByteArray) (p : Pg) (key : Int) (A B : World → Prop) (T : List Nat) (w : World) (hb : BdAt w b r d tv dg) (hA : A w) (fA : Firm A) (fB : Firm B) (hr : HasR A r d p) (hm : p.mode = 0) (hk : ¬ key = 27)
  (HC : GivesB 137 #[.agg #[.pointer (some ⟨r, 0, none⟩)], .int .u8 key] A B 0 T) :
  Calls Tryz.prog 46 #[.pointer (some ⟨b, 0, none⟩), .int .u8 key] w fun e w' => e = .returned (.int .i64 0) ∧ B w' ∧ Upd T w w' := by
 have HO : Hid (∀ ww, BdAt ww b r d tv dg → RdAt ww r d p → qC 64 #[.pointer (some ⟨b, 0, none⟩)] ww (.iface 77 (.agg #[.pointer (some ⟨r, 0, none⟩)]))) := fun ww h1 h2 => mOn_normal b r d tv dg p ww h1 h2 hm
 have H := hr w hA
 have hk' : (key == 27) = false := by simp [hk]
 have hmt := meth_normal_take ⟨r, 0, none⟩
 clear hm hk
 go_enter func46, ntmps46
 go_wp2_with fail
 refine Calls.mono (HO.out _ hb H) ?_
 rintro e w1 ⟨rfl, h1⟩
 go_wp2_with fail
 refine Calls.mono (HC.out _ (fA _ _ hA qB)) ?_
 rintro e w2 ⟨rfl, h2, u2⟩
 go_wp2
 go_ret
 refine ⟨rfl, ?_, ?_⟩
 ·exact (fB _ _ h2 qB)
 ·repeat exact qU
theorem qt47 {P : Prop} (h : P := by
  clear hm hk hO0 hO3
  go_enter func46, ntmps46
  go_wp2_with fail
  refine Calls.mono (HO.out _ hb H) ?_
  rintro e w1 ⟨rfl, h1⟩
  go_wp2_with fail
  refine Calls.mono (HC.out _ (fA _ _ hA qB)) ?_
  rintro e w2 ⟨rfl, h2, u2⟩
  have B2 := (hb.below h1).upd u2 hbT
  have e0 := B2.c0
  obtain ⟨p2, R2⟩ := hBr w2 h2
  have g0 := R2.bg.c0
  have gl := R2.bg.lt
  go_wp2_with fail
  refine Calls.mono (HF.out _ (fB _ _ h2 qB)) ?_
  rintro e w3 ⟨rfl, h3, u3⟩
  go_wp2
  go_ret
  refine ⟨rfl, ?_, ?_⟩
  ·exact (fC _ _ h3 qB)
  ·refine Upd.trans (S := r :: T) ?_ (Upd.mono u3 qi)
   refine Upd.trans (S := r :: T) ?_ (Upd.mono u2 (by intro k hk; simp [hk]))
   exact Upd.of_below h1
 ) : P := h
theorem bTake_normal_doneB (b r d : Nat) (tv : Value) (dg : ByteArray) (p : Pg) (key O : Int) (C : World → Prop) (A B : World → Prop) (T : List Nat) (w : World) (hb : BdAt w b r d tv dg) (hA : A w) (fA : Firm A) (fB : Firm B) (hr : HasR A r d p) (hm : p.mode = 0) (hk : ¬ key = 27) (hbT : b ∉ T) (hO0 : ¬ O = 0) (hO3 : ¬ O = 3) (fC : Firm C) (hBr : ∀ ww, B ww → ∃ p2, RdAt ww r d p2)
  (HF : Hid (∀ ww, B ww → Calls Tryz.prog 65 #[.pointer (some ⟨r, 1, none⟩)] ww fun e w' => e = .returned (.tuple #[]) ∧ C w' ∧ Upd [r] ww w'))
  (HC : GivesB 137 #[.agg #[.pointer (some ⟨r, 0, none⟩)], .int .u8 key] A B O T) :
  Calls Tryz.prog 46 #[.pointer (some ⟨b, 0, none⟩), .int .u8 key] w fun e w' => e = .returned (.int .i64 O) ∧ C w' ∧ Upd (r :: T) w w' := by
 have HO : Hid (∀ ww, BdAt ww b r d tv dg → RdAt ww r d p → qC 64 #[.pointer (some ⟨b, 0, none⟩)] ww (.iface 77 (.agg #[.pointer (some ⟨r, 0, none⟩)]))) := fun ww h1 h2 => mOn_normal b r d tv dg p ww h1 h2 hm
 have H := hr w hA
 have hk' : (key == 27) = false := by simp [hk]
 have hO0' : (O == 0) = false := by simp [hO0]
 have hO3' : (O == 3) = false := by simp [hO3]
 have hmt := meth_normal_take ⟨r, 0, none⟩
 exact qt47
theorem bTake_marking_doneB (b r d : Nat) (tv : Value) (dg : ByteArray) (p : Pg) (key O : Int) (C : World → Prop) (A B : World → Prop) (T : List Nat) (w : World) (hb : BdAt w b r d tv dg) (hA : A w) (fA : Firm A) (fB : Firm B) (hr : HasR A r d p) (hm : p.mode = 2 ∨ p.mode = 3) (hk : ¬ key = 27) (hbT : b ∉ T) (hO0 : ¬ O = 0) (hO3 : ¬ O = 3) (fC : Firm C) (hBr : ∀ ww, B ww → ∃ p2, RdAt ww r d p2)
  (HF : Hid (∀ ww, B ww → Calls Tryz.prog 65 #[.pointer (some ⟨r, 1, none⟩)] ww fun e w' => e = .returned (.tuple #[]) ∧ C w' ∧ Upd [r] ww w'))
  (HC : GivesB 309 #[.agg #[.pointer (some ⟨r, 0, none⟩)], .int .u8 key] A B O T) :
  Calls Tryz.prog 46 #[.pointer (some ⟨b, 0, none⟩), .int .u8 key] w fun e w' => e = .returned (.int .i64 O) ∧ C w' ∧ Upd (r :: T) w w' := by
 have HO : Hid (∀ ww, BdAt ww b r d tv dg → RdAt ww r d p → qC 64 #[.pointer (some ⟨b, 0, none⟩)] ww (.iface 81 (.agg #[.pointer (some ⟨r, 0, none⟩)]))) := fun ww h1 h2 => mOn_marking b r d tv dg p ww h1 h2 hm
 have H := hr w hA
 have hk' : (key == 27) = false := by simp [hk]
 have hO0' : (O == 0) = false := by simp [hO0]
 have hO3' : (O == 3) = false := by simp [hO3]
 have hmt := meth_marking_take ⟨r, 0, none⟩
 exact qt47
abbrev TakesB (b r d : Nat) (tv : Value) (dg : ByteArray) (key : Int) (A B : World → Prop) (O : Int) (T : List Nat) : Prop :=
 Hid (∀ ww, BdAt ww b r d tv dg → A ww → Calls Tryz.prog 46 #[.pointer (some ⟨b, 0, none⟩), .int .u8 key] ww fun e w' => e = .returned (.int .i64 O) ∧ B w' ∧ Upd T ww w')
theorem press_normal_moreB (b r d : Nat) (p : Pg) (tv : Value) (n : Nat) (xs : List Value) (dg : ByteArray) (key : Int) (A B : World → Prop) (T : List Nat) (w : World) (HB : BdAt w b r d tv dg) (ho : w.ownsRow 0 5 1 tv n xs) (hA : A w) (hr : HasR A r d p) (hbT : b ∉ T) (htb : tv.ownBlock ≠ some b) (htT : ∀ k, k ∈ T → tv.ownBlock ≠ some k) (hn : n ≤ 17592186044416) (hm : p.mode = 0) (sB : ∀ u v, B u → Upd (b :: own tv) u v → B v) (HT : TakesB b r d tv dg key A B 0 T) :
  Calls Tryz.prog 38 #[.pointer (some ⟨b, 0, none⟩), .int .u8 key] w fun e w' => e = .returned (.int .i64 0) ∧ B w' ∧ ∃ tv', BdAt w' b r d tv' dg ∧ w'.ownsRow 0 5 1 tv' (n + 1) (xs ++ [.int .u8 key]) ∧ (tv'.ownBlock = tv.ownBlock ∨ ∃ g, tv'.ownBlock = some g ∧ w.heap.size ≤ g) ∧ Upd (b :: (T ++ own tv)) w w' := by
 have HK : Hid (∀ ww, BdAt ww b r d tv dg → ww.ownsRow 0 5 1 tv n xs → Calls Tryz.prog 47 #[.pointer (some ⟨b, 1, none⟩), .int .u8 key, .int .i64 0] ww fun e w' => e = .returned (.tuple #[]) ∧ ∃ tv', BdAt w' b r d tv' dg ∧ w'.ownsRow 0 5 1 tv' (n + 1) (xs ++ [.int .u8 key]) ∧ (tv'.ownBlock = tv.ownBlock ∨ ∃ g, tv'.ownBlock = some g ∧ ww.heap.size ≤ g) ∧ Upd (b :: own tv) ww w') := fun ww h1 h2 => mKeep_normal b r d tv dg key n xs ww h1 htb h2 hn
 have HR := hr w hA
 have b0 := HB.c0
 have r0 := HR.bg.c0
 have d3 := HR.dk.c3
 rw [hm] at d3
 have bl := HB.lt
 have rl := HR.bg.lt
 have dl := HR.dk.lt
 clear hn
 go_enter func38, ntmps38
 go_wp2_with fail
 refine Calls.mono (HT.out _ HB hA) ?_
 rintro e w1 ⟨rfl, R1, u1⟩
 have B1 := HB.upd u1 hbT
 have o1 := ownsRow_upd ho u1 htT
 go_wp2_with fail
 refine Calls.mono (HK.out _ B1 o1) ?_
 rintro e w2 ⟨rfl, tv', B2, o2, f2, u2⟩
 have hz1 := u1.size
 have F : Hid (tv'.ownBlock = tv.ownBlock ∨ ∃ g, tv'.ownBlock = some g ∧ w1.heap.size ≤ g) := f2
 clear f2
 go_wp2
 go_ret
 refine ⟨rfl, sB _ _ R1 u2, tv', B2, o2, ?_, ?_⟩
 ·rcases F.out with hf | ⟨g, hg, hg2⟩
  ·exact Or.inl hf
  ·exact Or.inr ⟨g, hg, by omega⟩
 ·exact (u1.mono (by intro k hk; simp [hk])).trans (u2.mono (by intro k hk; simp only [List.mem_cons, List.mem_append] at hk ⊢; rcases hk with hk | hk <;> simp [hk]))
theorem press_normal_doneB (b r d : Nat) (p : Pg) (tv : Value) (n : Nat) (xs : List Value) (dg : ByteArray) (key O : Int) (A B : World → Prop) (T : List Nat) (w : World) (HB : BdAt w b r d tv dg) (ho : w.ownsRow 0 5 1 tv n xs) (hA : A w) (hr : HasR A r d p) (hbT : b ∉ T) (htb : tv.ownBlock ≠ some b) (htT : ∀ k, k ∈ T → tv.ownBlock ≠ some k) (hn : n ≤ 17592186044416) (hm : p.mode = 0) (sB : ∀ u v, B u → Upd (b :: own tv) u v → B v) (fB : Firm B) (hB : ∀ ww, B ww → ∃ p2, RdAt ww r d p2 ∧ ¬ p2.mode = 1 ∧ p2.now = p2.t) (hbr : b ≠ r) (hbd : b ≠ d) (hO0 : ¬ O = 0) (hO2 : ¬ O = 2) (HT : TakesB b r d tv dg key A B O T) :
  Calls Tryz.prog 38 #[.pointer (some ⟨b, 0, none⟩), .int .u8 key] w fun e w' => e = .returned (.int .i64 O) ∧ B w' ∧ BdAt w' b r d (.slice none 0 0) dg ∧ Upd (b :: (T ++ own tv)) w w' := by
 have HK : Hid (∀ ww, BdAt ww b r d tv dg → ww.ownsRow 0 5 1 tv n xs → Calls Tryz.prog 47 #[.pointer (some ⟨b, 1, none⟩), .int .u8 key, .int .i64 0] ww fun e w' => e = .returned (.tuple #[]) ∧ ∃ tv', BdAt w' b r d tv' dg ∧ w'.ownsRow 0 5 1 tv' (n + 1) (xs ++ [.int .u8 key]) ∧ (tv'.ownBlock = tv.ownBlock ∨ ∃ g, tv'.ownBlock = some g ∧ ww.heap.size ≤ g) ∧ Upd (b :: own tv) ww w') := fun ww h1 h2 => mKeep_normal b r d tv dg key n xs ww h1 htb h2 hn
 have HE : Hid (∀ tv' ww, BdAt ww b r d tv' dg → Calls Tryz.prog 48 #[.pointer (some ⟨b, 1, none⟩), .int .i64 O] ww fun e w' => e = .returned (.tuple #[]) ∧ BdAt w' b r d (.slice none 0 0) dg ∧ Upd [b] ww w') := fun tv' ww h1 => mEnd b r d tv' dg O ww h1 hO2
 have HR := hr w hA
 have b0 := HB.c0
 have r0 := HR.bg.c0
 have d3 := HR.dk.c3
 rw [hm] at d3
 have bl := HB.lt
 have rl := HR.bg.lt
 have dl := HR.dk.lt
 have hO0' : (O == 0) = false := by simp [hO0]
 have hO0q : (O != 0) = true := by simp [hO0]
 clear hn hO0 hO2
 go_enter func38, ntmps38
 go_wp2_with fail
 refine Calls.mono (HT.out _ HB hA) ?_
 rintro e w1 ⟨rfl, R1, u1⟩
 have B1 := HB.upd u1 hbT
 have o1 := ownsRow_upd ho u1 htT
 go_wp2_with fail
 refine Calls.mono (HK.out _ B1 o1) ?_
 rintro e w2 ⟨rfl, tv', B2, o2, f2, u2⟩
 have S2 := sB _ _ R1 u2
 obtain ⟨p2, R2, hm2, hnow⟩ := hB w2 S2
 have HH : Hid (∀ ww, RdAt ww r d p2 → qC 49 #[.pointer (some ⟨d, 5, none⟩), .string p2.t] ww (.tuple #[])) := fun ww h1 => hKeep_same r d p2 ww h1 hnow
 have hm2q : (p2.mode != 1) = true := by simp [hm2]
 have hm2' : (p2.mode == 1) = false := by simp [hm2]
 have e0 := B2.c0
 have e1 := R2.bg.c0
 have e2 := R2.dk.c3
 clear f2 o2 hm2 hnow
 go_wp2_with fail
 refine Calls.mono (HE.out _ _ B2) ?_
 rintro e w3 ⟨rfl, B3, u3⟩
 have R3 : RdAt w3 r d p2 := R2.upd u3 (by simp; exact fun e => hbr e.symm) (by simp; exact fun e => hbd e.symm)
 have S3 := sB _ _ S2 (u3.mono qi)
 have g0 := B3.c0
 have g1 := R3.bg.c0
 have g2 := R3.dk.c0
 have H := R3
 go_wp2_with fail
 go_region_held3 (fun ww => ww.cell? ⟨b, 0, none⟩ = some (.pointer (some ⟨r, 0, none⟩)) ∧ ww.cell? ⟨r, 0, none⟩ = some (.pointer (some ⟨d, 0, none⟩)) ∧ ww.cell? ⟨d, 0, none⟩ = some (.string p2.t)) (exact qK) ((go_at_call 49; refine Calls.mono (HH.out _ qRd) ?_; rintro r4 w4 ⟨rfl, h4⟩; have hz4 := h4.size; (try simp at hz4); (try have ⟨hl4_0, hk4_0⟩ := qL b w4.heap.size); (try have ⟨hl4_1, hk4_1⟩ := qL d w4.heap.size); (try have ⟨hl4_2, hk4_2⟩ := qL r w4.heap.size)))
 go_wp2
 go_ret
 have B4 := (B3.drew).below h4
 refine ⟨rfl, fB _ _ (fB _ _ S3 ((Below.refl _ _).drew)) h4, B4, ?_⟩
 refine Upd.below (Upd.drew ?_) h4
 exact ((u1.mono (by intro k hk; simp [hk])).trans (u2.mono (by intro k hk; simp only [List.mem_cons, List.mem_append] at hk ⊢; rcases hk with hk | hk <;> simp [hk]))).trans (u3.mono qi)
abbrev GivesO (f : Nat) (args : Array Value) (s : ByteArray) : Prop :=
 ∃ (a b : Nat) (l is : Bool), a ≤ b ∧ b ≤ s.size ∧ ∀ ww, Calls Tryz.prog f args ww fun e w' => e = .returned (.tuple #[.agg #[.int .i64 a, .int .i64 b, .bool l], .bool is]) ∧ Below ww.heap.size ww w'
theorem oWordL (s : ByteArray) (p : Nat) (wh g : Bool) (hs : s.size ≤ 1000) (hp : p ≤ s.size) : ∃ (a b : Nat) (is : Bool), a ≤ b ∧ b ≤ s.size ∧ ∀ ww, qC 214 #[.agg #[.string s, .int .i64 p, .bool wh], .bool g] ww (.tuple #[.agg #[.int .i64 a, .int .i64 b, .bool false], .bool is]) := by
 obtain ⟨c, d, c1, c2, c3, HR1⟩ := tRun_ex s p g hs hp
 have HR1 : qH 256 #[.string s, .int .i64 p, .bool g] (.agg #[.int .i64 (c), .int .i64 (d)]) := HR1
 by_cases hcd : c = d
 ·subst hcd
  have HE : qH 185 #[.agg #[.int .i64 (c), .int .i64 (c)]] (.bool true) := fun ww => tEmpty_eq c ww
  refine ⟨0, 0, false, Nat.le_refl _, Nat.zero_le _, fun w => ?_⟩
  go_enter func214, ntmps214
  have G : Tri ((w.alloc (.cells #[.string s, .int .i64 p, .bool wh] 213)).alloc (.cells #[.int .i64 0, .int .i64 0, .bool false] 186)) w.heap.size s p wh := Tri.alloc (Tri.new _ _ _ _ _) _
  have Q : Tre ((w.alloc (.cells #[.string s, .int .i64 p, .bool wh] 213)).alloc (.cells #[.int .i64 0, .int .i64 0, .bool false] 186)) (w.heap.size + 1) 0 0 false := by have := Tre.new (w.alloc (.cells #[.string s, .int .i64 p, .bool wh] 213)) 0 0 false 186; simpa using this
  go_wp2_with fail
  refine (HR1.out _).mono ?_
  rintro r1 w1 ⟨rfl, h1⟩
  obtain ⟨hc1, hf1, hz1⟩ := qb h1
  (try simp at hz1)
  have G1 : Tri w1 (w.heap.size) (s) (p) (wh) := qTi
  have ⟨G1_0, G1_1, G1_2, G1_z, G1_l⟩ := G1
  have Q1 : Tre w1 (w.heap.size + 1) (0) (0) (false) := qTe
  have ⟨Q1_0, Q1_1, Q1_2, Q1_z, Q1_l⟩ := Q1
  clear hc1 hf1
  have E : Two (w1.alloc (.cells #[.int .i64 c, .int .i64 c] 128)) w1.heap.size c c := Two.new _ _ _ _
  go_wp2_with fail
  refine (HE.out _).mono ?_
  rintro r2 w2 ⟨rfl, h2⟩
  obtain ⟨hc2, hf2, hz2⟩ := qb h2
  (try simp at hz2)
  have G2 : Tri w2 (w.heap.size) (s) (p) (wh) := qTi
  have ⟨G2_0, G2_1, G2_2, G2_z, G2_l⟩ := G2
  have Q2 : Tre w2 (w.heap.size + 1) (0) (0) (false) := qTe
  have ⟨Q2_0, Q2_1, Q2_2, Q2_z, Q2_l⟩ := Q2
  have E2 : Two w2 (w1.heap.size) (c) (c) := qTw
  have ⟨E2_0, E2_1, E2_z, E2_l⟩ := E2
  clear hc2 hf2
  go_wp2
  exact qV (.tuple #[.agg #[.int .i64 0, .int .i64 0, .bool false], .bool false]) (by simp [results, results214, go_sem, Q2_0, Q2_1, Q2_2, Q2_z, Q2_l]) rfl
 ·have HE : qH 185 #[.agg #[.int .i64 (c), .int .i64 (d)]] (.bool false) := fun ww => tEmpty_ne c d ww hcd
  cases wh with
  | false =>
   refine ⟨c, d, true, by omega, by omega, fun w => ?_⟩
   go_enter func214, ntmps214
   have G : Tri ((w.alloc (.cells #[.string s, .int .i64 p, .bool false] 213)).alloc (.cells #[.int .i64 0, .int .i64 0, .bool false] 186)) w.heap.size s p false := Tri.alloc (Tri.new _ _ _ _ _) _
   have Q : Tre ((w.alloc (.cells #[.string s, .int .i64 p, .bool false] 213)).alloc (.cells #[.int .i64 0, .int .i64 0, .bool false] 186)) (w.heap.size + 1) 0 0 false := by have := Tre.new (w.alloc (.cells #[.string s, .int .i64 p, .bool false] 213)) 0 0 false 186; simpa using this
   go_wp2_with fail
   refine (HR1.out _).mono ?_
   rintro r1 w1 ⟨rfl, h1⟩
   obtain ⟨hc1, hf1, hz1⟩ := qb h1
   (try simp at hz1)
   have G1 : Tri w1 (w.heap.size) (s) (p) (false) := qTi
   have ⟨G1_0, G1_1, G1_2, G1_z, G1_l⟩ := G1
   have Q1 : Tre w1 (w.heap.size + 1) (0) (0) (false) := qTe
   have ⟨Q1_0, Q1_1, Q1_2, Q1_z, Q1_l⟩ := Q1
   clear hc1 hf1
   have E : Two (w1.alloc (.cells #[.int .i64 c, .int .i64 d] 128)) w1.heap.size c d := Two.new _ _ _ _
   go_wp2_with fail
   refine (HE.out _).mono ?_
   rintro r2 w2 ⟨rfl, h2⟩
   obtain ⟨hc2, hf2, hz2⟩ := qb h2
   (try simp at hz2)
   have G2 : Tri w2 (w.heap.size) (s) (p) (false) := qTi
   have ⟨G2_0, G2_1, G2_2, G2_z, G2_l⟩ := G2
   have Q2 : Tre w2 (w.heap.size + 1) (0) (0) (false) := qTe
   have ⟨Q2_0, Q2_1, Q2_2, Q2_z, Q2_l⟩ := Q2
   have E2 : Two w2 (w1.heap.size) (c) (d) := qTw
   have ⟨E2_0, E2_1, E2_z, E2_l⟩ := E2
   clear hc2 hf2
   go_wp2
   exact qV (.tuple #[.agg #[.int .i64 c, .int .i64 d, .bool false], .bool true]) (by simp [results, results214, go_sem, Q2_0, Q2_1, Q2_2, Q2_z, Q2_l]) rfl
  | true =>
   obtain ⟨B, HB⟩ := oBlanks_ex s p c d true qo c3
   cases B with
   | true =>
    have HB : qH 257 #[.agg #[.string s, .int .i64 p, .bool true], .agg #[.int .i64 (c), .int .i64 (d)]] (.bool true) := HB
    obtain ⟨a, b, is, k1, k2, HW⟩ := oBlanksW s p c d true g hs qo c3
    have HW : qH 258 #[.agg #[.string s, .int .i64 p, .bool true], .agg #[.int .i64 (c), .int .i64 (d)], .bool g] (.tuple #[.agg #[.int .i64 a, .int .i64 b, .bool false], .bool is]) := HW
    refine ⟨a, b, is, k1, k2, fun w => ?_⟩
    go_enter func214, ntmps214
    have G : Tri ((w.alloc (.cells #[.string s, .int .i64 p, .bool true] 213)).alloc (.cells #[.int .i64 0, .int .i64 0, .bool false] 186)) w.heap.size s p true := Tri.alloc (Tri.new _ _ _ _ _) _
    have Q : Tre ((w.alloc (.cells #[.string s, .int .i64 p, .bool true] 213)).alloc (.cells #[.int .i64 0, .int .i64 0, .bool false] 186)) (w.heap.size + 1) 0 0 false := by have := Tre.new (w.alloc (.cells #[.string s, .int .i64 p, .bool true] 213)) 0 0 false 186; simpa using this
    go_wp2_with fail
    refine (HR1.out _).mono ?_
    rintro r1 w1 ⟨rfl, h1⟩
    obtain ⟨hc1, hf1, hz1⟩ := qb h1
    (try simp at hz1)
    have G1 : Tri w1 (w.heap.size) (s) (p) (true) := qTi
    have ⟨G1_0, G1_1, G1_2, G1_z, G1_l⟩ := G1
    have Q1 : Tre w1 (w.heap.size + 1) (0) (0) (false) := qTe
    have ⟨Q1_0, Q1_1, Q1_2, Q1_z, Q1_l⟩ := Q1
    clear hc1 hf1
    have E : Two (w1.alloc (.cells #[.int .i64 c, .int .i64 d] 128)) w1.heap.size c d := Two.new _ _ _ _
    go_wp2_with fail
    refine (HE.out _).mono ?_
    rintro r2 w2 ⟨rfl, h2⟩
    obtain ⟨hc2, hf2, hz2⟩ := qb h2
    (try simp at hz2)
    have G2 : Tri w2 (w.heap.size) (s) (p) (true) := qTi
    have ⟨G2_0, G2_1, G2_2, G2_z, G2_l⟩ := G2
    have Q2 : Tre w2 (w.heap.size + 1) (0) (0) (false) := qTe
    have ⟨Q2_0, Q2_1, Q2_2, Q2_z, Q2_l⟩ := Q2
    have E2 : Two w2 (w1.heap.size) (c) (d) := qTw
    have ⟨E2_0, E2_1, E2_z, E2_l⟩ := E2
    clear hc2 hf2
    go_wp2_with fail
    refine (HB.out _).mono ?_
    rintro r3 w3 ⟨rfl, h3⟩
    obtain ⟨hc3, hf3, hz3⟩ := qb h3
    (try simp at hz3)
    have G3 : Tri w3 (w.heap.size) (s) (p) (true) := qTi
    have ⟨G3_0, G3_1, G3_2, G3_z, G3_l⟩ := G3
    have Q3 : Tre w3 (w.heap.size + 1) (0) (0) (false) := qTe
    have ⟨Q3_0, Q3_1, Q3_2, Q3_z, Q3_l⟩ := Q3
    have E3 : Two w3 (w1.heap.size) (c) (d) := qTw
    have ⟨E3_0, E3_1, E3_z, E3_l⟩ := E3
    clear hc3 hf3
    go_wp2_with fail
    refine (HW.out _).mono ?_
    rintro r4 w4 ⟨rfl, h4⟩
    obtain ⟨hc4, hf4, hz4⟩ := qb h4
    (try simp at hz4)
    have G4 : Tri w4 (w.heap.size) (s) (p) (true) := qTi
    have ⟨G4_0, G4_1, G4_2, G4_z, G4_l⟩ := G4
    have Q4 : Tre w4 (w.heap.size + 1) (0) (0) (false) := qTe
    have ⟨Q4_0, Q4_1, Q4_2, Q4_z, Q4_l⟩ := Q4
    have E4 : Two w4 (w1.heap.size) (c) (d) := qTw
    have ⟨E4_0, E4_1, E4_z, E4_l⟩ := E4
    clear hc4 hf4
    go_wp2
    exact qV (.tuple #[.agg #[.int .i64 a, .int .i64 b, .bool false], .bool is]) (by simp [results, results214, go_sem, Q4_0, Q4_1, Q4_2, Q4_z, Q4_l]) rfl
   | false =>
    have HB : qH 257 #[.agg #[.string s, .int .i64 p, .bool true], .agg #[.int .i64 (c), .int .i64 (d)]] (.bool false) := HB
    obtain ⟨a, b, k1, k2, HW⟩ := oWordB s p c d true g hs qo c3
    have HW : qH 259 #[.agg #[.string s, .int .i64 p, .bool true], .agg #[.int .i64 (c), .int .i64 (d)], .bool g] (.agg #[.int .i64 (a), .int .i64 (b)]) := HW
    refine ⟨a, b, true, k1, k2, fun w => ?_⟩
    go_enter func214, ntmps214
    have G : Tri ((w.alloc (.cells #[.string s, .int .i64 p, .bool true] 213)).alloc (.cells #[.int .i64 0, .int .i64 0, .bool false] 186)) w.heap.size s p true := Tri.alloc (Tri.new _ _ _ _ _) _
    have Q : Tre ((w.alloc (.cells #[.string s, .int .i64 p, .bool true] 213)).alloc (.cells #[.int .i64 0, .int .i64 0, .bool false] 186)) (w.heap.size + 1) 0 0 false := by have := Tre.new (w.alloc (.cells #[.string s, .int .i64 p, .bool true] 213)) 0 0 false 186; simpa using this
    go_wp2_with fail
    refine (HR1.out _).mono ?_
    rintro r1 w1 ⟨rfl, h1⟩
    obtain ⟨hc1, hf1, hz1⟩ := qb h1
    (try simp at hz1)
    have G1 : Tri w1 (w.heap.size) (s) (p) (true) := qTi
    have ⟨G1_0, G1_1, G1_2, G1_z, G1_l⟩ := G1
    have Q1 : Tre w1 (w.heap.size + 1) (0) (0) (false) := qTe
    have ⟨Q1_0, Q1_1, Q1_2, Q1_z, Q1_l⟩ := Q1
    clear hc1 hf1
    have E : Two (w1.alloc (.cells #[.int .i64 c, .int .i64 d] 128)) w1.heap.size c d := Two.new _ _ _ _
    go_wp2_with fail
    refine (HE.out _).mono ?_
    rintro r2 w2 ⟨rfl, h2⟩
    obtain ⟨hc2, hf2, hz2⟩ := qb h2
    (try simp at hz2)
    have G2 : Tri w2 (w.heap.size) (s) (p) (true) := qTi
    have ⟨G2_0, G2_1, G2_2, G2_z, G2_l⟩ := G2
    have Q2 : Tre w2 (w.heap.size + 1) (0) (0) (false) := qTe
    have ⟨Q2_0, Q2_1, Q2_2, Q2_z, Q2_l⟩ := Q2
    have E2 : Two w2 (w1.heap.size) (c) (d) := qTw
    have ⟨E2_0, E2_1, E2_z, E2_l⟩ := E2
    clear hc2 hf2
    go_wp2_with fail
    refine (HB.out _).mono ?_
    rintro r3 w3 ⟨rfl, h3⟩
    obtain ⟨hc3, hf3, hz3⟩ := qb h3
    (try simp at hz3)
    have G3 : Tri w3 (w.heap.size) (s) (p) (true) := qTi
    have ⟨G3_0, G3_1, G3_2, G3_z, G3_l⟩ := G3
    have Q3 : Tre w3 (w.heap.size + 1) (0) (0) (false) := qTe
    have ⟨Q3_0, Q3_1, Q3_2, Q3_z, Q3_l⟩ := Q3
    have E3 : Two w3 (w1.heap.size) (c) (d) := qTw
    have ⟨E3_0, E3_1, E3_z, E3_l⟩ := E3
    clear hc3 hf3
    go_wp2_with fail
    refine (HW.out _).mono ?_
    rintro r4 w4 ⟨rfl, h4⟩
    obtain ⟨hc4, hf4, hz4⟩ := qb h4
    (try simp at hz4)
    have G4 : Tri w4 (w.heap.size) (s) (p) (true) := qTi
    have ⟨G4_0, G4_1, G4_2, G4_z, G4_l⟩ := G4
    have Q4 : Tre w4 (w.heap.size + 1) (0) (0) (false) := qTe
    have ⟨Q4_0, Q4_1, Q4_2, Q4_z, Q4_l⟩ := Q4
    have E4 : Two w4 (w1.heap.size) (c) (d) := qTw
    have ⟨E4_0, E4_1, E4_z, E4_l⟩ := E4
    clear hc4 hf4
    go_wp2
    exact qV (.tuple #[.agg #[.int .i64 a, .int .i64 b, .bool false], .bool true]) (by simp [results, results214, go_sem, Q4_0, Q4_1, Q4_2, Q4_z, Q4_l]) rfl
theorem oWord (s : ByteArray) (p : Nat) (wh g : Bool) (hs : s.size ≤ 1000) (hp : p ≤ s.size) : GivesO 214 #[.agg #[.string s, .int .i64 p, .bool wh], .bool g] s := by
 obtain ⟨a, b, is, h1, h2, H⟩ := oWordL s p wh g hs hp
 exact ⟨a, b, false, is, h1, h2, H⟩
abbrev HasB (A : World → Prop) (b r d : Nat) (p : Pg) : Prop := ∀ w, A w → (∃ tv dg, BdAt w b r d tv dg) ∧ RdAt w r d p
abbrev GivesT (f : Nat) (args : Array Value) (A B : World → Prop) : Prop := Hid (∀ ww, A ww → Calls Tryz.prog f args ww fun e w' => e = .returned (.tuple #[]) ∧ B w')
theorem press_go (b r d : Nat) (p : Pg) (key : Int) (A B C : World → Prop) (w : World) (hA : A w) (pA : HasB A b r d p) (pB : ∀ ww, B ww → ∃ tv dg, BdAt ww b r d tv dg)
  (HT : Hid (∀ ww, A ww → Calls Tryz.prog 46 #[.pointer (some ⟨b, 0, none⟩), .int .u8 key] ww fun e w' => e = .returned (.int .i64 0) ∧ B w'))
  (HK : GivesT 47 #[.pointer (some ⟨b, 1, none⟩), .int .u8 key, .int .i64 p.mode] B C) :
  Calls Tryz.prog 38 #[.pointer (some ⟨b, 0, none⟩), .int .u8 key] w fun e w' => e = .returned (.int .i64 0) ∧ C w' := by
 obtain ⟨⟨tv, dg, HB⟩, HR⟩ := pA w hA
 have b0 := HB.c0
 have r0 := HR.bg.c0
 have d3 := HR.dk.c3
 have bl := HB.lt
 have rl := HR.bg.lt
 have dl := HR.dk.lt
 have pB' : Hid (∀ ww, B ww → ∃ tv dg, BdAt ww b r d tv dg) := pB
 clear pB pA
 go_enter func38, ntmps38
 go_wp2_with fail
 refine Calls.mono (HT.out _ hA) ?_
 rintro e w1 ⟨rfl, h1⟩
 obtain ⟨tv1, dg1, B1⟩ := pB'.out w1 h1
 have bl1 := B1.lt
 go_wp2_with fail
 refine Calls.mono (HK.out _ h1) ?_
 rintro e w2 ⟨rfl, h2⟩
 have HC : Hid (C w2) := h2
 clear h1 h2
 go_wp2
 go_ret
 exact ⟨rfl, HC.out⟩
theorem press_ins (b r d : Nat) (p p2 : Pg) (key O : Int) (A B C : World → Prop) (w : World) (hA : A w) (pA : HasB A b r d p) (pB : ∀ ww, B ww → ∃ tv dg, BdAt ww b r d tv dg) (pC : HasB C b r d p2) (hO : ¬ O = 0) (hm : p2.mode = 1)
  (HT : Hid (∀ ww, A ww → Calls Tryz.prog 46 #[.pointer (some ⟨b, 0, none⟩), .int .u8 key] ww fun e w' => e = .returned (.int .i64 O) ∧ B w'))
  (HK : GivesT 47 #[.pointer (some ⟨b, 1, none⟩), .int .u8 key, .int .i64 p.mode] B C) :
  Calls Tryz.prog 38 #[.pointer (some ⟨b, 0, none⟩), .int .u8 key] w fun e w' => e = .returned (.int .i64 O) ∧ C w' := by
 obtain ⟨⟨tv, dg, HB⟩, HR⟩ := pA w hA
 have b0 := HB.c0
 have r0 := HR.bg.c0
 have d3 := HR.dk.c3
 have bl := HB.lt
 have rl := HR.bg.lt
 have dl := HR.dk.lt
 have pB' : Hid (∀ ww, B ww → ∃ tv dg, BdAt ww b r d tv dg) := pB
 have pC' : Hid (HasB C b r d p2) := pC
 have hO' : (O == 0) = false := by simp [hO]
 have hO2 : (O != 0) = true := by simp [hO]
 have hm' : (p2.mode != 1) = false := by simp [hm]
 have hm2 : (p2.mode == 1) = true := by simp [hm]
 clear pB pA pC hO hm
 go_enter func38, ntmps38
 go_wp2_with fail
 refine Calls.mono (HT.out _ hA) ?_
 rintro e w1 ⟨rfl, h1⟩
 obtain ⟨tv1, dg1, B1⟩ := pB'.out w1 h1
 have bl1 := B1.lt
 go_wp2_with fail
 refine Calls.mono (HK.out _ h1) ?_
 rintro e w2 ⟨rfl, h2⟩
 obtain ⟨⟨tv2, dg2, B2⟩, R2⟩ := pC'.out w2 h2
 have e0 := B2.c0
 have e1 := R2.bg.c0
 have e2 := R2.dk.c3
 have HC : Hid (C w2) := h2
 clear h1 h2
 go_wp2
 go_ret
 exact ⟨rfl, HC.out⟩
