/- Joined of the texts LookE, LookF. -/
import Derived.Test.YtlendfhehhacpaaGreatP50
import Derived.Test.YtlendfhehhacpaaGreatP44
import Derived.Test.YtlendfhehhacpaaGreatP38
set_option linter.unusedVariables false
set_option linter.unusedSimpArgs false
set_option maxRecDepth 100000
set_option maxHeartbeats 8000000
namespace Go.Proofs.YtlendfhehhacpaaGreat
open Go.RowKit
def LKey (key : Int) : Prop := (isPlainWay key = true ∧ ¬ key = 103) ∨ Nib.isFind key = true ∨ key = 103 ∨ key = 59 ∨ key = 44 ∨ key = 118 ∨ key = 86 ∨ key = 121 ∨ (49 ≤ key ∧ key ≤ 57)
theorem nextN_le (n : Nat) (c : Int) : Nib.nextN n c ≤ 99 := by unfold Nib.nextN; split <;> omega
theorem mMCommand_y (r d : Nat) (p : Pg) (O : Int) (i j : Int) (l : Bool) (A B : World → Prop) (T : List Nat) (w : World) (hA : A w) (fA : Firm A) (fB : Firm B) (hr : HasR A r d p) (hTl : ∀ k, k ∈ T → k < w.heap.size)
    (HM : Hid (∀ ww, A ww → Calls Tryz.prog 313 #[.agg #[.pointer (some ⟨r, 0, none⟩)]] ww fun e w' => e = .returned (.agg #[.int .i64 i, .int .i64 j, .bool l]) ∧ Below ww.heap.size ww w'))
    (HD : GivesB 146 #[.pointer (some ⟨r, 0, none⟩), .int .u8 121, .agg #[.int .i64 i, .int .i64 j, .bool l]] A B O T) :
    Calls Tryz.prog 310 #[.agg #[.pointer (some ⟨r, 0, none⟩)], .int .u8 121] w fun e w' => e = .returned (.int .i64 O) ∧ B w' ∧ Upd T w w' := by
  have hTw : w.heap.size ∉ T := fun hk => by have := hTl _ hk; omega
  go_enter Tryz.func310, Tryz.ntmps310
  have g0 : (w.alloc (.cells #[.pointer (some ⟨r, 0, none⟩)] 81)).cell? ⟨w.heap.size, 0, none⟩ = some (.pointer (some ⟨r, 0, none⟩)) := by simp
  go_wp2_with fail
  go_region_held3 (fun ww => ww.cell? ⟨w.heap.size, 0, none⟩ = some (.pointer (some ⟨r, 0, none⟩))) ((first | (go_simp; done) | ((repeat (first | with_reducible assumption | (with_reducible refine memLater ((Below.refl _ _).alloc (Nat.le_refl _) _) ?_) | (with_reducible refine memLater ((Below.refl _ _).drew) ?_) | (with_reducible refine memLater h1 ?_) | (with_reducible refine (memSet (by omega)).trans ?_) | (go_simp; done))); done))) (first | (go_at_call 313; refine Calls.mono (HM.out _ (fA _ _ hA (by (repeat (with_reducible first | exact Below.refl _ _ | refine b_s ?_ _ | refine b_a ?_ _ | refine Below.drew ?_ | refine below_drewN ?_ _))))) ?_; rintro r1 w1 ⟨rfl, h1⟩; have hz1 := h1.size; (try simp at hz1); (try have hl1_0 : w.heap.size < w1.heap.size := (by omega)); (try have hk1_0 : w.heap.size < w1.heap.size + 1 := (by omega))) | (go_at_call 146; refine Calls.mono (HD.out _ (fA _ _ hA (by (repeat (with_reducible first | exact Below.refl _ _ | refine b_s ?_ _ | refine b_a ?_ _ | refine Below.drew ?_ | refine below_drewN ?_ _ | refine b_t ?_ h1))))) ?_; rintro r2 w2 ⟨rfl, h2, u2⟩; have hz2 := u2.size; (try simp at hz2); have a1 := u2.was (b := w.heap.size) (o := 0) (v := .pointer (some ⟨r, 0, none⟩)) (by (repeat (first | with_reducible assumption | (with_reducible refine memLater ((Below.refl _ _).alloc (Nat.le_refl _) _) ?_) | (with_reducible refine memLater ((Below.refl _ _).drew) ?_) | (with_reducible refine memLater h1 ?_)))) hTw))
  go_wp2
  go_ret
  refine ⟨rfl, ?_, ?_⟩
  · exact (fB _ _ h2 (by (repeat (with_reducible first | exact Below.refl _ _ | refine b_s ?_ _ | refine b_a ?_ _ | refine Below.drew ?_ | refine below_drewN ?_ _))))
  · repeat (with_reducible first | exact Upd.refl _ _ | refine u_s ?_ _ | refine Upd.alloc ?_ _ | refine Upd.drewN ?_ _ | refine Upd.drew ?_ | refine Upd.trans ?_ (Upd.mono u2 (by simp)) | refine Upd.below ?_ h1)
theorem mMTake_cmdB (r d : Nat) (p : Pg) (key O : Int) (A B : World → Prop) (T : List Nat) (w : World) (hA : A w) (fA : Firm A) (fB : Firm B) (hr : HasR A r d p) (hp : p.part = 0) (hv : p.verb = 0) (hd : Nib.isD p.n key = false)
    (HC : GivesB 310 #[.agg #[.pointer (some ⟨r, 0, none⟩)], .int .u8 key] A B O T) :
    Calls Tryz.prog 309 #[.agg #[.pointer (some ⟨r, 0, none⟩)], .int .u8 key] w fun e w' => e = .returned (.int .i64 O) ∧ B w' ∧ Upd T w w' := by
  have H := hr w hA
  have HD : Hid (∀ ww, RdAt ww r d p → Calls Tryz.prog 139 #[.pointer (some ⟨r, 1, none⟩), .int .u8 key] ww fun e w' => e = .returned (.bool false) ∧ Below ww.heap.size ww w') := fun ww hh => mDigit_no r d p key ww hh hv hd
  obtain ⟨b0, b1, b2, b3, b4, b5, bz, bl⟩ := H.bg
  rw [hp] at b5
  rw [hv] at b3
  clear b1 b2 b4 hp hv hd
  have l1 : r < w.heap.size + 1 := by omega
  go_enter Tryz.func309, Tryz.ntmps309
  go_wp2_with fail
  refine Calls.mono (HD.out _ (by (repeat (with_reducible first | exact H | refine RdAt.alloc ?_ _ | refine RdAt.drewN ?_ _ | refine RdAt.drew ?_ | refine r_o ?_ _)))) ?_
  rintro e w1 ⟨rfl, h1⟩
  obtain ⟨hc1, hf1⟩ := bcell h1
  have hz1 := h1.size
  simp at hz1
  have l2 : r < w1.heap.size := by omega
  go_wp2_with fail
  refine Calls.mono (HC.out _ (fA _ _ hA (by (repeat (with_reducible first | exact Below.refl _ _ | refine b_s ?_ _ | refine b_a ?_ _ | refine Below.drew ?_ | refine below_drewN ?_ _ | refine b_t ?_ h1))))) ?_
  rintro e w2 ⟨rfl, h2, u2⟩
  go_wp2
  go_ret
  refine ⟨rfl, ?_, ?_⟩
  · exact (fB _ _ h2 (by (repeat (with_reducible first | exact Below.refl _ _ | refine b_s ?_ _ | refine b_a ?_ _ | refine Below.drew ?_ | refine below_drewN ?_ _))))
  · repeat (with_reducible first | exact Upd.refl _ _ | refine u_s ?_ _ | refine Upd.alloc ?_ _ | refine Upd.drewN ?_ _ | refine Upd.drew ?_ | refine Upd.trans ?_ (Upd.mono u2 (by simp)) | refine Upd.below ?_ h1)
theorem GivesB.ofG {fn : Nat} {args : Array Value} {r d m : Nat} {p p2 : Pg} {O : Int} {t : ByteArray} {f : Int → Value} (h : GivesR fn args r d p p2 O) (hg : GoodL t m p2) (mr : m ≠ r) (md : m ≠ d) : GivesB fn args (LA r d m p f) (LX r d m t) O [r, d, m] := GivesB.x (GivesB.of_R h hg mr md)
theorem lTakeN (HA : AnyOk) (r d m : Nat) (p : Pg) (f : Int → Value) (t : ByteArray) (key : Int) (hg : GoodL t m p) (mr : m ≠ r) (md : m ≠ d) (rd : r ≠ d) (hm : p.mode = 0) (hk : LKey key) :
    ∃ O, (O = 0 ∨ O = 1 ∨ O = 4) ∧ GivesB 137 #[.agg #[.pointer (some ⟨r, 0, none⟩)], .int .u8 key] (LA r d m p f) (LX r d m t) O [r, d, m] := by
  have hno : ¬ key = 117 ∧ ¬ key = 85 ∧ ¬ key = 105 ∧ ¬ key = 97 := by
    unfold LKey isPlainWay Nib.isFind at hk
    simp only [Bool.or_eq_true, beq_iff_eq] at hk
    omega
  by_cases hp : p.part = 0
  · rcases hg.vb with hv | ⟨hv, _⟩
    · cases hd : Nib.isD p.n key with
      | true =>
        exact ⟨0, Or.inl rfl, GivesB.ofG (p2 := { p with n := Nib.nextN p.n key }) (fun ww hh => mTake_digit r d p key ww hh hp hv hg.n hd) ⟨hg.tx, hg.now, hg.ts, hg.pl, hg.st, hg.an, hg.mo, nextN_le _ _, hg.bh, hg.vb, hg.pt, hg.fd, hg.rg⟩ mr md⟩
      | false =>
        by_cases hy : key = 121
        · subst hy
          exact ⟨0, Or.inl rfl, GivesB.ofG (p2 := { p with verb := 121 }) (fun ww hh => mTake_cmd r d p _ 121 0 ww hh hp hv hd (fun w2 h2 => mCommand_verb r d p 121 w2 h2 (Or.inr rfl))) ⟨hg.tx, hg.now, hg.ts, hg.pl, hg.st, hg.an, hg.mo, hg.n, hg.bh, Or.inr ⟨rfl, hm⟩, hg.pt, hg.fd, hg.rg⟩ mr md⟩
        · by_cases hvv : key = 118 ∨ key = 86
          · refine ⟨1, Or.inr (Or.inl rfl), GivesB.ofG (p2 := { p with mode := if key = 86 then 3 else 2, anchor := p.pl }) (fun ww hh => mTake_cmd r d p _ key 1 ww hh hp hv hd (fun w2 h2 => mCommand_mark r d p key w2 h2 hvv)) ⟨hg.tx, hg.now, hg.ts, hg.pl, hg.st, hg.pl, ?_, hg.n, hg.bh, Or.inl hv, hg.pt, hg.fd, hg.rg⟩ mr md⟩
            show (if key = 86 then (3 : Int) else 2) = 0 ∨ _ ∨ _
            split
            · exact Or.inr (Or.inr rfl)
            · exact Or.inr (Or.inl rfl)
          · have hw : (isPlainWay key = true ∧ ¬ key = 103) ∨ Nib.isFind key = true ∨ key = 103 ∨ key = 59 ∨ key = 44 := by
              rcases hk with h | h | h | h | h | h | h | h | h
              · exact Or.inl h
              · exact Or.inr (Or.inl h)
              · exact Or.inr (Or.inr (Or.inl h))
              · exact Or.inr (Or.inr (Or.inr (Or.inl h)))
              · exact Or.inr (Or.inr (Or.inr (Or.inr h)))
              · exact absurd (Or.inl h) hvv
              · exact absurd (Or.inr h) hvv
              · exact absurd h hy
              · exfalso
                simp only [Nib.isD, decide_eq_false_iff_not] at hd
                omega
            have hkc : ∀ c, c ∈ kCmd → ¬ key = c := by
              intro c hc e
              subst e
              unfold isPlainWay Nib.isFind at hw
              simp only [Bool.or_eq_true, beq_iff_eq] at hw
              simp only [kCmd, List.mem_cons, List.not_mem_nil, or_false] at hc
              omega
            obtain ⟨O, p2, hO, hg2, h⟩ := lWay0 HA r d m p t key hg hv hw
            exact ⟨O, hO, GivesB.ofG (fun ww hh => mTake_cmd r d p p2 key O ww hh hp hv hd (fun w2 h2 => mCommand_way r d p p2 key O w2 h2 hkc h)) hg2 mr md⟩
    · have hv0 : ¬ p.verb = 0 := by rw [hv]; decide
      cases hd : Nib.isD p.behind key with
      | true =>
        exact ⟨0, Or.inl rfl, GivesB.ofG (p2 := { p with behind := Nib.nextN p.behind key }) (fun ww hh => mTake_digitV r d p key ww hh hp hv0 hg.bh hd) ⟨hg.tx, hg.now, hg.ts, hg.pl, hg.st, hg.an, hg.mo, hg.n, nextN_le _ _, hg.vb, hg.pt, hg.fd, hg.rg⟩ mr md⟩
      | false =>
        by_cases hy : key = 121
        · have hpl := hg.pl
          have hq : lnsTo p ≤ t.size := by
            have h1 := Nib.lns_pos p.t
            have := (Nib.att_in (s := p.t) (m := min (Nib.lin p.t p.pl + (max (cnt p) 1 - 1)) (Nib.lns p.t - 1)) (by omega)).1
            rw [hg.tx] at this
            unfold lnsTo
            rw [hg.tx]
            exact this
          have h1 := Nib.fin_le hpl
          have h2 := Nib.fin_le hq
          have h3 := Nib.fin_ge t p.pl
          have h4 := Nib.beg_le t p.pl
          obtain ⟨O, hO, HD⟩ := lDo r d m p f t (min (Nib.beg t p.pl) (Nib.beg t (lnsTo p))) (max (Nib.fin t p.pl) (Nib.fin t (lnsTo p))) true hg mr md (by omega) (by omega)
          have HL : ∀ ww, LA r d m p f ww → Calls Tryz.prog 147 #[.agg #[.pointer (some ⟨r, 0, none⟩)]] ww fun e w' => e = .returned (.agg #[.int .i64 ((min (Nib.beg t p.pl) (Nib.beg t (lnsTo p)) : Nat) : Int), .int .i64 ((max (Nib.fin t p.pl) (Nib.fin t (lnsTo p)) : Nat) : Int), .bool true]) ∧ Below ww.heap.size ww w' := by
            intro ww hh
            have := mLines r d p ww hh.1 (by rw [hg.tx]; exact hg.ts) (by rw [hg.tx]; exact hpl) hg.n hg.bh (cnt_le hg.n hg.bh)
            rw [hg.tx] at this
            rw [show ((min (Nib.beg t p.pl) (Nib.beg t (lnsTo p)) : Nat) : Int) = min (Nib.beg t p.pl : Int) (Nib.beg t (lnsTo p)) by omega, show ((max (Nib.fin t p.pl) (Nib.fin t (lnsTo p)) : Nat) : Int) = max (Nib.fin t p.pl : Int) (Nib.fin t (lnsTo p)) by omega]
            exact this
          refine ⟨O, Or.inr hO, GivesB.x (a := p.fnd) (c := p.findC) (fun ww hh => mTake_behind r d p key O (LA r d m p f) _ [r, d, m] ww hh LA.firm LB.firm (fun _ h => h.1) hp hv0 hd (fun w2 h2 => Calls.mono (mBehind_lines r d p key O _ _ (LA r d m p f) _ [d, m] w2 h2 LA.firm LB.firm (fun _ h => h.1) (by simp [rd, mr.symm]) (by intro k hk; simp at hk; rcases hk with hk | hk; (rw [hk]; exact h2.1.dk.lt); (rw [hk]; exact h2.2.lt)) (by rw [hy, hv]) HL (by rw [hv]; exact HD)) (fun _ _ ⟨x, y, z⟩ => ⟨x, y, z.mono (by simp)⟩)))⟩
        · have hw : (isPlainWay key = true ∧ ¬ key = 103) ∨ Nib.isFind key = true ∨ key = 103 ∨ key = 59 ∨ key = 44 ∨ key = 118 ∨ key = 86 := by
            rcases hk with h | h | h | h | h | h | h | h | h
            · exact Or.inl h
            · exact Or.inr (Or.inl h)
            · exact Or.inr (Or.inr (Or.inl h))
            · exact Or.inr (Or.inr (Or.inr (Or.inl h)))
            · exact Or.inr (Or.inr (Or.inr (Or.inr (Or.inl h))))
            · exact Or.inr (Or.inr (Or.inr (Or.inr (Or.inr (Or.inl h)))))
            · exact Or.inr (Or.inr (Or.inr (Or.inr (Or.inr (Or.inr h)))))
            · exact absurd h hy
            · exfalso
              simp only [Nib.isD, decide_eq_false_iff_not] at hd
              omega
          obtain ⟨O, hO, h⟩ := lWayV HA r d m p f t key hg mr md rd hv hw
          exact ⟨O, hO, fun ww hh => mTake_behind r d p key O (LA r d m p f) _ [r, d, m] ww hh LA.firm LX.firm (fun _ h => h.1) hp hv0 hd (fun w2 h2 => mBehind_way r d p key O (LA r d m p f) _ [r, d, m] w2 h2 LA.firm LX.firm (fun _ h => h.1) (by rw [hv]; exact hy) hno.2.2.1 hno.2.2.2 h)⟩
  · have hp' : Nib.isFind p.part = true ∨ p.part = 103 := by
      rcases hg.pt with h | h
      · exact absurd h hp
      · exact h
    rcases hg.vb with hv | ⟨hv, _⟩
    · obtain ⟨O, p2, hO, hg2, h⟩ := lCompl0 HA r d m p t key hg hv hp'
      exact ⟨O, Or.inr hO, GivesB.ofG (fun ww hh => mTake_part r d p p2 key O ww hh hp (fun w2 h2 => mNComplete r d p p2 key O w2 h2 (by
        rcases hp' with h | h
        · exact Or.inl h
        · exact Or.inr ⟨h, hno.1, hno.2.1⟩) h)) hg2 mr md⟩
    · obtain ⟨O, hO, h⟩ := lComplV HA r d m p f t key hg mr md rd hv hp'
      exact ⟨O, Or.inr hO, fun ww hh => mTake_partB r d p key O (LA r d m p f) _ [r, d, m] ww hh LA.firm LX.firm (fun _ h => h.1) hp (fun w2 h2 => mNCompleteB r d p key O (LA r d m p f) _ [r, d, m] w2 h2 LA.firm LX.firm (fun _ h => h.1) hp' (by rw [hv]; decide) h)⟩
theorem bTake_marking_moreB (b r d : Nat) (tv : Value) (dg : ByteArray) (p : Pg) (key : Int) (A B : World → Prop) (T : List Nat) (w : World) (hb : BdAt w b r d tv dg) (hA : A w) (fA : Firm A) (fB : Firm B) (hr : HasR A r d p) (hm : p.mode = 2 ∨ p.mode = 3) (hk : ¬ key = 27)
    (HC : GivesB 309 #[.agg #[.pointer (some ⟨r, 0, none⟩)], .int .u8 key] A B 0 T) :
    Calls Tryz.prog 46 #[.pointer (some ⟨b, 0, none⟩), .int .u8 key] w fun e w' => e = .returned (.int .i64 0) ∧ B w' ∧ Upd T w w' := by
  have HO : Hid (∀ ww, BdAt ww b r d tv dg → RdAt ww r d p → Calls Tryz.prog 64 #[.pointer (some ⟨b, 0, none⟩)] ww fun e w' => e = .returned (.iface 81 (.agg #[.pointer (some ⟨r, 0, none⟩)])) ∧ Below ww.heap.size ww w') := fun ww h1 h2 => mOn_marking b r d tv dg p ww h1 h2 hm
  have H := hr w hA
  have hk' : (key == 27) = false := by simp [hk]
  have hmt := meth_marking_take ⟨r, 0, none⟩
  clear hm hk
  go_enter Tryz.func46, Tryz.ntmps46
  go_wp2_with fail
  refine Calls.mono (HO.out _ hb H) ?_
  rintro e w1 ⟨rfl, h1⟩
  go_wp2_with fail
  refine Calls.mono (HC.out _ (fA _ _ hA (by (repeat (with_reducible first | exact Below.refl _ _ | refine b_s ?_ _ | refine b_a ?_ _ | refine Below.drew ?_ | refine below_drewN ?_ _ | refine b_t ?_ h1))))) ?_
  rintro e w2 ⟨rfl, h2, u2⟩
  go_wp2
  go_ret
  refine ⟨rfl, ?_, ?_⟩
  · exact (fB _ _ h2 (by (repeat (with_reducible first | exact Below.refl _ _ | refine b_s ?_ _ | refine b_a ?_ _ | refine Below.drew ?_ | refine below_drewN ?_ _))))
  · repeat (with_reducible first | exact Upd.refl _ _ | refine u_s ?_ _ | refine Upd.alloc ?_ _ | refine Upd.drewN ?_ _ | refine Upd.drew ?_ | refine Upd.trans ?_ (Upd.mono u2 (by simp)) | refine Upd.below ?_ h1)
theorem press_mark_moreB (b r d : Nat) (p : Pg) (tv : Value) (dg : ByteArray) (key : Int) (A B : World → Prop) (T : List Nat) (w : World) (HB : BdAt w b r d tv dg) (hA : A w) (hr : HasR A r d p) (hbT : b ∉ T) (hm : p.mode = 2 ∨ p.mode = 3) (sB : ∀ u v, B u → Upd [b] u v → B v) (fB : Firm B) (hbr : b ≠ r) (hbd : b ≠ d) (HT : TakesB b r d tv dg key A B 0 T) :
    Calls Tryz.prog 38 #[.pointer (some ⟨b, 0, none⟩), .int .u8 key] w fun e w' => e = .returned (.int .i64 0) ∧ B w' ∧ BdAt w' b r d tv dg ∧ Upd T w w' := by
  have HK : Hid (∀ ww, BdAt ww b r d tv dg → Calls Tryz.prog 47 #[.pointer (some ⟨b, 1, none⟩), .int .u8 key, .int .i64 p.mode] ww fun e w' => e = .returned (.tuple #[]) ∧ Below ww.heap.size ww w') := fun ww h1 => mKeep_not b r d tv dg key p.mode ww h1 hm
  have HR := hr w hA
  have b0 := HB.c0
  have r0 := HR.bg.c0
  have d3 := HR.dk.c3
  have bl := HB.lt
  have rl := HR.bg.lt
  have dl := HR.dk.lt
  clear hm
  generalize p.mode = M at *
  go_enter Tryz.func38, Tryz.ntmps38
  go_wp2_with fail
  refine Calls.mono (HT.out _ HB hA) ?_
  rintro e w1 ⟨rfl, R1, u1⟩
  have B1 := HB.upd u1 hbT
  go_wp2_with fail
  refine Calls.mono (HK.out _ B1) ?_
  rintro e w2 ⟨rfl, h2⟩
  have B2 := B1.below h2
  go_wp2
  go_ret
  exact ⟨rfl, fB _ _ R1 h2, B2, u1.below h2⟩
theorem lTakeM (HA : AnyOk) (r d m : Nat) (p : Pg) (f : Int → Value) (t : ByteArray) (key : Int) (hg : GoodL t m p) (mr : m ≠ r) (md : m ≠ d) (rd : r ≠ d) (hm : p.mode = 2 ∨ p.mode = 3) (hk : LKey key) :
    ∃ O, (O = 0 ∨ O = 1 ∨ O = 4) ∧ GivesB 309 #[.agg #[.pointer (some ⟨r, 0, none⟩)], .int .u8 key] (LA r d m p f) (LX r d m t) O [r, d, m] := by
  have hv : p.verb = 0 := by
    rcases hg.vb with h | ⟨_, h⟩
    · exact h
    · omega
  by_cases hp : p.part = 0
  · cases hd : Nib.isD p.n key with
    | true =>
      exact ⟨0, Or.inl rfl, GivesB.ofG (p2 := { p with n := Nib.nextN p.n key }) (fun ww hh => mMTake_digit r d p key ww hh hp hv hg.n hd) ⟨hg.tx, hg.now, hg.ts, hg.pl, hg.st, hg.an, hg.mo, nextN_le _ _, hg.bh, hg.vb, hg.pt, hg.fd, hg.rg⟩ mr md⟩
    | false =>
      by_cases hy : key = 121
      · subst hy
        have hpl := hg.pl
        have han := hg.an
        rcases hm with hm2 | hm3
        · obtain ⟨O, hO, HD⟩ := lDo r d m p f t (min p.anchor p.pl) (min (max p.anchor p.pl + 1) t.size) false hg mr md (by omega) (by omega)
          have HM : ∀ ww, LA r d m p f ww → Calls Tryz.prog 313 #[.agg #[.pointer (some ⟨r, 0, none⟩)]] ww fun e w' => e = .returned (.agg #[.int .i64 ((min p.anchor p.pl : Nat) : Int), .int .i64 ((min (max p.anchor p.pl + 1) t.size : Nat) : Int), .bool false]) ∧ Below ww.heap.size ww w' := by
            intro ww hh
            have := mMarked_bytes r d p ww hh.1 (by rw [hg.tx]; exact hg.ts) (by rw [hg.tx]; exact hpl) (by rw [hg.tx]; exact han) hm2
            rw [hg.tx] at this
            exact this
          exact ⟨O, Or.inr hO, GivesB.x (a := p.fnd) (c := p.findC) (fun ww hh => mMTake_cmdB r d p 121 O (LA r d m p f) _ [r, d, m] ww hh LA.firm LB.firm (fun _ h => h.1) hp hv hd (fun w2 h2 => Calls.mono (mMCommand_y r d p O _ _ false (LA r d m p f) _ [d, m] w2 h2 LA.firm LB.firm (fun _ h => h.1) (by intro k hk; simp at hk; rcases hk with hk | hk; (rw [hk]; exact h2.1.dk.lt); (rw [hk]; exact h2.2.lt)) HM HD) (fun _ _ ⟨x, y, z⟩ => ⟨x, y, z.mono (by simp)⟩)))⟩
        · have h1 := Nib.fin_le hpl
          have h2 := Nib.fin_le han
          have h3 := Nib.fin_ge t p.pl
          have h4 := Nib.beg_le t p.pl
          obtain ⟨O, hO, HD⟩ := lDo r d m p f t (min (Nib.beg t p.anchor) (Nib.beg t p.pl)) (max (Nib.fin t p.anchor) (Nib.fin t p.pl)) true hg mr md (by omega) (by omega)
          have HM : ∀ ww, LA r d m p f ww → Calls Tryz.prog 313 #[.agg #[.pointer (some ⟨r, 0, none⟩)]] ww fun e w' => e = .returned (.agg #[.int .i64 ((min (Nib.beg t p.anchor) (Nib.beg t p.pl) : Nat) : Int), .int .i64 ((max (Nib.fin t p.anchor) (Nib.fin t p.pl) : Nat) : Int), .bool true]) ∧ Below ww.heap.size ww w' := by
            intro ww hh
            have := mMarked_lines r d p ww hh.1 (by rw [hg.tx]; exact hg.ts) (by rw [hg.tx]; exact hpl) (by rw [hg.tx]; exact han) hm3
            rw [hg.tx] at this
            rw [show ((min (Nib.beg t p.anchor) (Nib.beg t p.pl) : Nat) : Int) = min (Nib.beg t p.anchor : Int) (Nib.beg t p.pl) by omega, show ((max (Nib.fin t p.anchor) (Nib.fin t p.pl) : Nat) : Int) = max (Nib.fin t p.anchor : Int) (Nib.fin t p.pl) by omega]
            exact this
          exact ⟨O, Or.inr hO, GivesB.x (a := p.fnd) (c := p.findC) (fun ww hh => mMTake_cmdB r d p 121 O (LA r d m p f) _ [r, d, m] ww hh LA.firm LB.firm (fun _ h => h.1) hp hv hd (fun w2 h2 => Calls.mono (mMCommand_y r d p O _ _ true (LA r d m p f) _ [d, m] w2 h2 LA.firm LB.firm (fun _ h => h.1) (by intro k hk; simp at hk; rcases hk with hk | hk; (rw [hk]; exact h2.1.dk.lt); (rw [hk]; exact h2.2.lt)) HM HD) (fun _ _ ⟨x, y, z⟩ => ⟨x, y, z.mono (by simp)⟩)))⟩
      · by_cases hvv : key = 118 ∨ key = 86
        · refine ⟨1, Or.inr (Or.inl rfl), GivesB.ofG (fun ww hh => mMTake_cmd r d p _ key 1 ww hh hp hv hd (fun w2 h2 => mMCommand_turn r d p key w2 h2 hvv)) ?_ mr md⟩
          by_cases hpm : p.mode = (if key = 86 then (3 : Int) else 2)
          · rw [if_pos hpm]; exact ⟨hg.tx, hg.now, hg.ts, hg.pl, hg.st, Nat.zero_le _, Or.inl rfl, hg.n, hg.bh, Or.inl hv, hg.pt, hg.fd, hg.rg⟩
          · rw [if_neg hpm]
            refine ⟨hg.tx, hg.now, hg.ts, hg.pl, hg.st, hg.an, ?_, hg.n, hg.bh, Or.inl hv, hg.pt, hg.fd, hg.rg⟩
            show (if key = 86 then (3 : Int) else 2) = 0 ∨ _ ∨ _
            split
            · exact Or.inr (Or.inr rfl)
            · exact Or.inr (Or.inl rfl)
        · have hw : (isPlainWay key = true ∧ ¬ key = 103) ∨ Nib.isFind key = true ∨ key = 103 ∨ key = 59 ∨ key = 44 := by
            rcases hk with h | h | h | h | h | h | h | h | h
            · exact Or.inl h
            · exact Or.inr (Or.inl h)
            · exact Or.inr (Or.inr (Or.inl h))
            · exact Or.inr (Or.inr (Or.inr (Or.inl h)))
            · exact Or.inr (Or.inr (Or.inr (Or.inr h)))
            · exact absurd (Or.inl h) hvv
            · exact absurd (Or.inr h) hvv
            · exact absurd h hy
            · exfalso
              simp only [Nib.isD, decide_eq_false_iff_not] at hd
              omega
          have hkc : ∀ c, c ∈ kMrk → ¬ key = c := by
            intro c hc e
            subst e
            unfold isPlainWay Nib.isFind at hw
            simp only [Bool.or_eq_true, beq_iff_eq] at hw
            simp only [kMrk, List.mem_cons, List.not_mem_nil, or_false] at hc
            omega
          obtain ⟨O, p2, hO, hg2, h⟩ := lWay0 HA r d m p t key hg hv hw
          exact ⟨O, hO, GivesB.ofG (fun ww hh => mMTake_cmd r d p p2 key O ww hh hp hv hd (fun w2 h2 => mMCommand_way r d p p2 key O w2 h2 hkc h)) hg2 mr md⟩
  · have hp' : Nib.isFind p.part = true ∨ p.part = 103 := by
      rcases hg.pt with h | h
      · exact absurd h hp
      · exact h
    obtain ⟨O, p2, hO, hg2, h⟩ := lCompl0 HA r d m p t key hg hv hp'
    exact ⟨O, Or.inr hO, GivesB.ofG (fun ww hh => mMTake_part r d p p2 key O ww hh hp h) hg2 mr md⟩
end Go.Proofs.YtlendfhehhacpaaGreat
