/- A part. -/
import Derived.Test.YtlendfhehhacpaaGreatU38
import Derived.Test.YtlendfhehhacpaaGreatU35
import Derived.Test.YtlendfhehhacpaaGreatU40
set_option linter.unusedVariables false
set_option linter.unusedSimpArgs false
set_option maxRecDepth 100000
set_option maxHeartbeats 8000000
namespace Go.Proofs.YtlendfhehhacpaaGreat
open Go.RowKit Nib Tryz
theorem tPartner_any (s : ByteArray) (p : Nat) (w : World) (hs : s.size ≤ 1000) (hp : p < s.size) (hb : prt (bt s p) ≠ 0) :
  qC 255 #[.string s, .int .i64 p] w (.tuple #[.int .i64 (mtI (mtch s p)), .bool (mtB (mtch s p))]) := by
 have HS : qH 287 #[.string s, .int .u8 (((s[p]'hp).toNat : Nat) : Int), .int .i64 p, .int .i64 0] (.tuple #[.int .i64 (mtI (mtch s p)), .bool (mtB (mtch s p))]) := by
  intro ww
  rw [← bt_in hp]
  have hcase : bt s p = 40 ∨ bt s p = 91 ∨ bt s p = 123 ∨ bt s p = 41 ∨ bt s p = 93 ∨ bt s p = 125 := by
   unfold prt at hb
   by_cases h1 : bt s p = 40
   ·exact Or.inl h1
   by_cases h2 : bt s p = 91
   ·exact Or.inr (Or.inl h2)
   by_cases h3 : bt s p = 123
   ·exact Or.inr (Or.inr (Or.inl h3))
   by_cases h4 : bt s p = 41
   ·exact Or.inr (Or.inr (Or.inr (Or.inl h4)))
   by_cases h5 : bt s p = 93
   ·exact Or.inr (Or.inr (Or.inr (Or.inr (Or.inl h5))))
   by_cases h6 : bt s p = 125
   ·exact Or.inr (Or.inr (Or.inr (Or.inr (Or.inr h6))))
   ·rw [if_neg h1, if_neg h2, if_neg h3, if_neg h4, if_neg h5, if_neg h6] at hb
    exact absurd rfl hb
  rcases hcase with h | h | h | h | h | h
  ·have e : mtch s p = mtU s 40 41 (s.size - p) ((0 : Nat) : Int) p := by unfold mtch; rw [h]; rfl
   rw [e, h]; exact tSeek_40 s p 0 ww hs hp qo (Or.inr h)
  ·have e : mtch s p = mtU s 91 93 (s.size - p) ((0 : Nat) : Int) p := by unfold mtch; rw [h]; rfl
   rw [e, h]; exact tSeek_91 s p 0 ww hs hp qo (Or.inr h)
  ·have e : mtch s p = mtU s 123 125 (s.size - p) ((0 : Nat) : Int) p := by unfold mtch; rw [h]; rfl
   rw [e, h]; exact tSeek_123 s p 0 ww hs hp qo (Or.inr h)
  ·have e : mtch s p = mtD s 41 40 ((0 : Nat) : Int) (p + 1) := by unfold mtch; rw [h]; rfl
   rw [e, h]; exact tSeek_41 s p 0 ww hs hp qo (Or.inr h)
  ·have e : mtch s p = mtD s 93 91 ((0 : Nat) : Int) (p + 1) := by unfold mtch; rw [h]; rfl
   rw [e, h]; exact tSeek_93 s p 0 ww hs hp qo (Or.inr h)
  ·have e : mtch s p = mtD s 125 123 ((0 : Nat) : Int) (p + 1) := by unfold mtch; rw [h]; rfl
   rw [e, h]; exact tSeek_125 s p 0 ww hs hp qo (Or.inr h)
 generalize mtch s p = M at *
 generalize mtI M = X at *
 generalize mtB M = Z at *
 clear hb
 go_enter func255, ntmps255
 go_wp2_with fail
 refine (HS.out _).mono ?_
 rintro e w1 ⟨rfl, h1⟩
 obtain ⟨hc1, hf1, hz1⟩ := qb h1
 try simp at hz1
 go_wp2
 all_goals
  first
   | (exact qV (.tuple #[.int .i64 X, .bool Z]) (by simp [results, results255, go_sem]) rfl)
theorem nNew_ok (t : ByteArray) (w : World) (h : t.size ≤ 1000) :
  Calls Tryz.prog 24 #[.string t] w fun e w' => ∃ q b r d m : Nat, e = .returned (.tuple #[.pointer (some ⟨q, 0, none⟩), .int .i64 0]) ∧ w'.cell? ⟨q, 0, none⟩ = some (.pointer (some ⟨b, 0, none⟩)) ∧ NbAt w' b r d (newPg t m) (.slice none 0 0) 0 ⟨#[]⟩ ∧ w'.heap[m]? = some (.map #[] 0) ∧
   w.heap.size ≤ q ∧ w.heap.size ≤ m ∧ w.heap.size ≤ b ∧ w.heap.size ≤ r ∧ w.heap.size ≤ d ∧ q ≠ b ∧ q ≠ r ∧ q ≠ d ∧ m ≠ b ∧ m ≠ r ∧ m ≠ d ∧ q < w'.heap.size ∧ Below w.heap.size w w' := by
 have h' : ¬ (1000 : Int) < (t.size : Int) := by omega
 have HN : Hid (∀ ww, Calls Tryz.prog 33 #[.string t] ww fun e w' => ∃ b r d m : Nat, e = .returned (.pointer (some ⟨b, 0, none⟩)) ∧ NbAt w' b r d (newPg t m) (.slice none 0 0) 0 ⟨#[]⟩ ∧ w'.heap[m]? = some (.map #[] 0) ∧
   ww.heap.size ≤ m ∧ ww.heap.size ≤ b ∧ ww.heap.size ≤ r ∧ ww.heap.size ≤ d ∧ m ≠ b ∧ m ≠ r ∧ m ≠ d ∧ Below ww.heap.size ww w') := fun ww => bNew t ww
 go_enter func24, ntmps24
 go_wp2_with fail
 refine Calls.mono (HN.out _) ?_
 rintro e w1 ⟨b, r, d, m, rfl, hN, hm, m1, m2, m3, m4, m5, m6, m7, h1⟩
 have HB : Hid (NbAt w1 b r d (newPg t m) (.slice none 0 0) 0 ⟨#[]⟩) := hN
 have HM : Hid (w1.heap[m]? = some (.map #[] 0)) := hm
 have bl := hN.bd.lt
 have rl := hN.rd.bg.lt
 have dl := hN.rd.dk.lt
 have ml : m < w1.heap.size := (Array.getElem?_eq_some_iff.1 hm).1
 have hz1 := h1.size
 clear hN hm
 go_wp2
 go_ret2
 refine ⟨w1.heap.size, b, r, d, m, rfl, by simp, ?_, ?_, by omega, m1, m2, m3, m4, by omega, by omega, by omega, m5, m6, m7, by simp, ?_⟩
 ·exact ⟨HB.out.bd.alloc _, HB.out.rd.alloc _, ⟨_, World.ownsRow_nil _ _ _ _⟩, HB.out.br, HB.out.bd', HB.out.tb, HB.out.tr, HB.out.td⟩
 ·rw [Below.heap_alloc _ _ _ ml]; exact HM.out
 ·repeat exact qB
theorem nType (q b : Nat) (s : ByteArray) (w : World) (N : Int) (Q : World → Prop) (hq : w.cell? ⟨q, 0, none⟩ = some (.pointer (some ⟨b, 0, none⟩)))
  (HT : Hid (∀ ww, ww = w → Calls Tryz.prog 30 #[.pointer (some ⟨b, 0, none⟩), .string s] ww fun e w' => e = .returned (.int .i64 N) ∧ Q w')) :
  Calls Tryz.prog 17 #[.pointer (some ⟨q, 0, none⟩), .string s] w fun e w' => e = .returned (.int .i64 N) ∧ Q w' := by
 go_enter func17, ntmps17
 go_wp2_with fail
 refine Calls.mono (HT.out _ rfl) ?_
 rintro e w1 ⟨rfl, h1⟩
 have HQ : Hid (Q w1) := h1
 clear h1
 go_wp2
 go_ret
 exact ⟨rfl, HQ.out⟩
theorem nState (q b r d : Nat) (tv : Value) (dg : ByteArray) (p : Pg) (w : World) (hq : w.cell? ⟨q, 0, none⟩ = some (.pointer (some ⟨b, 0, none⟩))) (hb : BdAt w b r d tv dg) (h : RdAt w r d p) :
  qC 18 #[.pointer (some ⟨q, 0, none⟩)] w (.agg #[.string p.t, .int .i64 (p.pl : Nat), .int .i64 (p.anchor : Nat), .int .i64 p.mode, .bool (waits p)]) := by
 have HS : Hid (∀ ww, BdAt ww b r d tv dg → RdAt ww r d p → qC 31 #[.pointer (some ⟨b, 0, none⟩)] ww (.agg #[.string p.t, .int .i64 (p.pl : Nat), .int .i64 (p.anchor : Nat), .int .i64 p.mode, .bool (waits p)])) := fun ww h1 h2 => bState b r d tv dg p ww h1 h2
 generalize waits p = N at *
 have ql : q < w.heap.size := World.block_lt_of_cell? w ⟨q, 0, none⟩ hq
 have l1 : q < w.heap.size + 1 := by omega
 go_enter func18, ntmps18
 go_wp2_with fail
 refine Calls.mono (HS.out _ (hb.alloc _) (h.alloc _)) ?_
 rintro e w1 ⟨rfl, h1⟩
 obtain ⟨hc1, hf1, hz1⟩ := qb h1
 simp at hz1
 have e0 := fun o => hc1 w.heap.size o qi
 have e1 := fun o => hf1 w.heap.size o qi
 clear hc1 hf1
 go_wp2
 exact qV (.agg #[.string p.t, .int .i64 (p.pl : Nat), .int .i64 (p.anchor : Nat), .int .i64 p.mode, .bool N]) (by simp [results, results18, go_sem, e0]) rfl
