/- Joined of the texts ModesH, ModesK, ModesL. -/
import Derived.Test.YtlendfhehhacpaaGreatP09
import Derived.Test.YtlendfhehhacpaaGreatP05
import Derived.OwnWalk
import Derived.ArgAppend
set_option linter.unusedVariables false
set_option linter.unusedSimpArgs false
set_option maxRecDepth 100000
set_option maxHeartbeats 8000000
namespace Go.Proofs.YtlendfhehhacpaaGreat
open Go.RowKit
abbrev GivesR (f : Nat) (args : Array Value) (r d : Nat) (p p2 : Pg) (O : Int) : Prop :=
  Hid (∀ ww, RdAt ww r d p → Calls Tryz.prog f args ww fun e w' => e = .returned (.int .i64 O) ∧ RdAt w' r d p2 ∧ Upd [r, d] ww w')
theorem GivesR.of_d {f : Nat} {args : Array Value} {r d : Nat} {p p2 : Pg} {O : Int} (h : ∀ ww, RdAt ww r d p → Calls Tryz.prog f args ww fun e w' => e = .returned (.int .i64 O) ∧ RdAt w' r d p2 ∧ Upd [d] ww w') : GivesR f args r d p p2 O :=
  fun ww hh => Calls.mono (h ww hh) (fun _ _ ⟨a, b, c⟩ => ⟨a, b, c.mono (by simp)⟩)
theorem GivesR.of_r {f : Nat} {args : Array Value} {r d : Nat} {p p2 : Pg} {O : Int} (h : ∀ ww, RdAt ww r d p → Calls Tryz.prog f args ww fun e w' => e = .returned (.int .i64 O) ∧ RdAt w' r d p2 ∧ Upd [r] ww w') : GivesR f args r d p p2 O :=
  fun ww hh => Calls.mono (h ww hh) (fun _ _ ⟨a, b, c⟩ => ⟨a, b, c.mono (by simp)⟩)
theorem GivesR.of_below {f : Nat} {args : Array Value} {r d : Nat} {p : Pg} {O : Int} (h : ∀ ww, RdAt ww r d p → Calls Tryz.prog f args ww fun e w' => e = .returned (.int .i64 O) ∧ Below ww.heap.size ww w') : GivesR f args r d p p O :=
  fun ww hh => Calls.mono (h ww hh) (fun _ _ ⟨a, b⟩ => ⟨a, hh.below b, Upd.of_below b⟩)
theorem mNComplete (r d : Nat) (p p2 : Pg) (key O : Int) (w : World) (h : RdAt w r d p) (hp : Nib.isFind p.part = true ∨ (p.part = 103 ∧ ¬ key = 117 ∧ ¬ key = 85))
    (HC : GivesR 145 #[.pointer (some ⟨r, 0, none⟩), .int .u8 key] r d p p2 O) :
    Calls Tryz.prog 138 #[.agg #[.pointer (some ⟨r, 0, none⟩)], .int .u8 key] w fun e w' => e = .returned (.int .i64 O) ∧ RdAt w' r d p2 ∧ Upd [r, d] w w' := by
  have H := h
  obtain ⟨b0, b1, b2, b3, b4, b5, bz, bl⟩ := h.bg
  clear b1 b2 b4 h
  have l1 : r < w.heap.size + 1 := by omega
  by_cases hg : p.part = 103
  · obtain ⟨k1, k2⟩ : ¬ key = 117 ∧ ¬ key = 85 := by
      rcases hp with hp | hp
      · rw [hg] at hp; exact absurd hp (by decide)
      · exact hp.2
    have k1' : (key == 117) = false := by simp [k1]
    have k2' : (key == 85) = false := by simp [k2]
    rw [hg] at b5
    clear hp hg k1 k2
    by_cases hv : p.verb = 0
    · rw [hv] at b3
      clear hv
      go_enter Tryz.func138, Tryz.ntmps138
      go_wp2_with fail
      refine Calls.mono (HC.out _ (by (repeat (with_reducible first | exact H | refine RdAt.alloc ?_ _ | refine RdAt.drewN ?_ _ | refine RdAt.drew ?_ | refine r_o ?_ _)))) ?_
      rintro e w1 ⟨rfl, h1, u1⟩
      go_wp2
      go_ret
      refine ⟨rfl, ?_, ?_⟩
      · repeat (with_reducible first | exact h1 | refine r_o ?_ _ | refine RdAt.alloc ?_ _ | refine RdAt.drewN ?_ _ | refine RdAt.drew ?_)
      · repeat (with_reducible first | exact Upd.refl _ _ | refine u_s ?_ _ | refine Upd.alloc ?_ _ | refine Upd.drewN ?_ _ | refine Upd.drew ?_ | refine Upd.trans ?_ (Upd.mono u1 (by simp)))
    · have hv' : (p.verb == 0) = false := by simp [hv]
      clear hv
      go_enter Tryz.func138, Tryz.ntmps138
      go_wp2_with fail
      refine Calls.mono (HC.out _ (by (repeat (with_reducible first | exact H | refine RdAt.alloc ?_ _ | refine RdAt.drewN ?_ _ | refine RdAt.drew ?_ | refine r_o ?_ _)))) ?_
      rintro e w1 ⟨rfl, h1, u1⟩
      go_wp2
      go_ret
      refine ⟨rfl, ?_, ?_⟩
      · repeat (with_reducible first | exact h1 | refine r_o ?_ _ | refine RdAt.alloc ?_ _ | refine RdAt.drewN ?_ _ | refine RdAt.drew ?_)
      · repeat (with_reducible first | exact Upd.refl _ _ | refine u_s ?_ _ | refine Upd.alloc ?_ _ | refine Upd.drewN ?_ _ | refine Upd.drew ?_ | refine Upd.trans ?_ (Upd.mono u1 (by simp)))
  · have hf : Nib.isFind p.part = true := by
      rcases hp with hp | hp
      · exact hp
      · exact absurd hp.1 hg
    simp only [Nib.isFind, Bool.or_eq_true, beq_iff_eq] at hf
    have g1 : (p.part == 103) = false := by simp [hg]
    have g2 : (p.part == 114) = false := by simp; omega
    clear hp hg hf
    go_enter Tryz.func138, Tryz.ntmps138
    go_wp2_with fail
    refine Calls.mono (HC.out _ (by (repeat (with_reducible first | exact H | refine RdAt.alloc ?_ _ | refine RdAt.drewN ?_ _ | refine RdAt.drew ?_ | refine r_o ?_ _)))) ?_
    rintro e w1 ⟨rfl, h1, u1⟩
    go_wp2
    go_ret
    refine ⟨rfl, ?_, ?_⟩
    · repeat (with_reducible first | exact h1 | refine r_o ?_ _ | refine RdAt.alloc ?_ _ | refine RdAt.drewN ?_ _ | refine RdAt.drew ?_)
    · repeat (with_reducible first | exact Upd.refl _ _ | refine u_s ?_ _ | refine Upd.alloc ?_ _ | refine Upd.drewN ?_ _ | refine Upd.drew ?_ | refine Upd.trans ?_ (Upd.mono u1 (by simp)))
def kCmd : List Int := [34, 100, 99, 121, 62, 60, 114, 118, 86, 120, 88, 68, 67, 115, 83, 89, 105, 97, 73, 65, 111, 79, 112, 80, 126, 74, 117, 18, 46]
theorem mCommand_way (r d : Nat) (p p2 : Pg) (key O : Int) (w : World) (h : RdAt w r d p) (hk : ∀ c, c ∈ kCmd → ¬ key = c)
    (HC : GivesR 148 #[.pointer (some ⟨r, 0, none⟩), .int .u8 key] r d p p2 O) :
    Calls Tryz.prog 141 #[.agg #[.pointer (some ⟨r, 0, none⟩)], .int .u8 key] w fun e w' => e = .returned (.int .i64 O) ∧ RdAt w' r d p2 ∧ Upd [r, d] w w' := by
  have H := h
  have k34 : (key == 34) = false := by simp [hk 34 (by decide)]
  have k100 : (key == 100) = false := by simp [hk 100 (by decide)]
  have k99 : (key == 99) = false := by simp [hk 99 (by decide)]
  have k121 : (key == 121) = false := by simp [hk 121 (by decide)]
  have k62 : (key == 62) = false := by simp [hk 62 (by decide)]
  have k60 : (key == 60) = false := by simp [hk 60 (by decide)]
  have k114 : (key == 114) = false := by simp [hk 114 (by decide)]
  have k118 : (key == 118) = false := by simp [hk 118 (by decide)]
  have k86 : (key == 86) = false := by simp [hk 86 (by decide)]
  have k120 : (key == 120) = false := by simp [hk 120 (by decide)]
  have k88 : (key == 88) = false := by simp [hk 88 (by decide)]
  have k68 : (key == 68) = false := by simp [hk 68 (by decide)]
  have k67 : (key == 67) = false := by simp [hk 67 (by decide)]
  have k115 : (key == 115) = false := by simp [hk 115 (by decide)]
  have k83 : (key == 83) = false := by simp [hk 83 (by decide)]
  have k89 : (key == 89) = false := by simp [hk 89 (by decide)]
  have k105 : (key == 105) = false := by simp [hk 105 (by decide)]
  have k97 : (key == 97) = false := by simp [hk 97 (by decide)]
  have k73 : (key == 73) = false := by simp [hk 73 (by decide)]
  have k65 : (key == 65) = false := by simp [hk 65 (by decide)]
  have k111 : (key == 111) = false := by simp [hk 111 (by decide)]
  have k79 : (key == 79) = false := by simp [hk 79 (by decide)]
  have k112 : (key == 112) = false := by simp [hk 112 (by decide)]
  have k80 : (key == 80) = false := by simp [hk 80 (by decide)]
  have k126 : (key == 126) = false := by simp [hk 126 (by decide)]
  have k74 : (key == 74) = false := by simp [hk 74 (by decide)]
  have k117 : (key == 117) = false := by simp [hk 117 (by decide)]
  have k18 : (key == 18) = false := by simp [hk 18 (by decide)]
  have k46 : (key == 46) = false := by simp [hk 46 (by decide)]
  clear hk h
  go_enter Tryz.func141, Tryz.ntmps141
  go_wp2_with fail
  refine Calls.mono (HC.out _ (by (repeat (with_reducible first | exact H | refine RdAt.alloc ?_ _ | refine RdAt.drewN ?_ _ | refine RdAt.drew ?_ | refine r_o ?_ _)))) ?_
  rintro e w1 ⟨rfl, h1, u1⟩
  go_wp2
  go_ret
  refine ⟨rfl, ?_, ?_⟩
  · repeat (with_reducible first | exact h1 | refine r_o ?_ _ | refine RdAt.alloc ?_ _ | refine RdAt.drewN ?_ _ | refine RdAt.drew ?_)
  · repeat (with_reducible first | exact Upd.refl _ _ | refine u_s ?_ _ | refine Upd.alloc ?_ _ | refine Upd.drewN ?_ _ | refine Upd.drew ?_ | refine Upd.trans ?_ (Upd.mono u1 (by simp)))
theorem mCommand_mark (r d : Nat) (p : Pg) (key : Int) (w : World) (h : RdAt w r d p) (hk : key = 118 ∨ key = 86) :
    Calls Tryz.prog 141 #[.agg #[.pointer (some ⟨r, 0, none⟩)], .int .u8 key] w fun e w' => e = .returned (.int .i64 1) ∧ RdAt w' r d { p with mode := if key = 86 then 3 else 2, anchor := p.pl } ∧ Upd [r, d] w w' := by
  have H := h
  have b0 := h.bg.c0
  have bl := h.bg.lt
  have l1 : r < w.heap.size + 1 := by omega
  rcases hk with hk | hk
  · have HM : Hid (∀ ww, RdAt ww r d p → Calls Tryz.prog 150 #[.pointer (some ⟨d, 0, none⟩), .int .i64 2] ww fun e w' => e = .returned (.tuple #[]) ∧ RdAt w' r d { p with mode := 2, anchor := p.pl } ∧ Upd [d] ww w') := fun ww hh => mMark r d p 2 ww hh
    subst hk
    rw [if_neg (by decide)]
    generalize hp2 : ({ p with mode := 2, anchor := p.pl } : Pg) = p2 at *
    clear hp2 h
    go_enter Tryz.func141, Tryz.ntmps141
    go_wp2_with fail
    refine Calls.mono (HM.out _ (by (repeat (with_reducible first | exact H | refine RdAt.alloc ?_ _ | refine RdAt.drewN ?_ _ | refine RdAt.drew ?_ | refine r_o ?_ _)))) ?_
    rintro e w1 ⟨rfl, h1, u1⟩
    go_wp2
    go_ret
    refine ⟨rfl, ?_, ?_⟩
    · repeat (with_reducible first | exact h1 | refine r_o ?_ _ | refine RdAt.alloc ?_ _ | refine RdAt.drewN ?_ _ | refine RdAt.drew ?_)
    · repeat (with_reducible first | exact Upd.refl _ _ | refine u_s ?_ _ | refine Upd.alloc ?_ _ | refine Upd.drewN ?_ _ | refine Upd.drew ?_ | refine Upd.trans ?_ (Upd.mono u1 (by simp)))
  · have HM : Hid (∀ ww, RdAt ww r d p → Calls Tryz.prog 150 #[.pointer (some ⟨d, 0, none⟩), .int .i64 3] ww fun e w' => e = .returned (.tuple #[]) ∧ RdAt w' r d { p with mode := 3, anchor := p.pl } ∧ Upd [d] ww w') := fun ww hh => mMark r d p 3 ww hh
    subst hk
    rw [if_pos rfl]
    generalize hp2 : ({ p with mode := 3, anchor := p.pl } : Pg) = p2 at *
    clear hp2 h
    go_enter Tryz.func141, Tryz.ntmps141
    go_wp2_with fail
    refine Calls.mono (HM.out _ (by (repeat (with_reducible first | exact H | refine RdAt.alloc ?_ _ | refine RdAt.drewN ?_ _ | refine RdAt.drew ?_ | refine r_o ?_ _)))) ?_
    rintro e w1 ⟨rfl, h1, u1⟩
    go_wp2
    go_ret
    refine ⟨rfl, ?_, ?_⟩
    · repeat (with_reducible first | exact h1 | refine r_o ?_ _ | refine RdAt.alloc ?_ _ | refine RdAt.drewN ?_ _ | refine RdAt.drew ?_)
    · repeat (with_reducible first | exact Upd.refl _ _ | refine u_s ?_ _ | refine Upd.alloc ?_ _ | refine Upd.drewN ?_ _ | refine Upd.drew ?_ | refine Upd.trans ?_ (Upd.mono u1 (by simp)))
theorem bTake_normal_esc (b r d : Nat) (tv : Value) (dg : ByteArray) (p : Pg) (w : World) (hb : BdAt w b r d tv dg) (h : RdAt w r d p) (hm : p.mode = 0) :
    Calls Tryz.prog 46 #[.pointer (some ⟨b, 0, none⟩), .int .u8 27] w fun e w' => e = .returned (.int .i64 1) ∧ RdAt w' r d { p.none' with mode := 0, anchor := 0 } ∧ Upd [r, d] w w' := by
  have HO : Hid (∀ ww, BdAt ww b r d tv dg → RdAt ww r d p → Calls Tryz.prog 64 #[.pointer (some ⟨b, 0, none⟩)] ww fun e w' => e = .returned (.iface 77 (.agg #[.pointer (some ⟨r, 0, none⟩)])) ∧ Below ww.heap.size ww w') := fun ww h1 h2 => mOn_normal b r d tv dg p ww h1 h2 hm
  have HE : Hid (∀ ww, RdAt ww r d p → Calls Tryz.prog 135 #[.pointer (some ⟨r, 0, none⟩)] ww fun e w' => e = .returned (.int .i64 1) ∧ RdAt w' r d { p.none' with mode := 0, anchor := 0 } ∧ Upd [r, d] ww w') := fun ww hh => mEscape r d p ww hh
  generalize hp2 : ({ p.none' with mode := 0, anchor := 0 } : Pg) = p2 at *
  have H := h
  have hmt := meth_normal_escape ⟨r, 0, none⟩
  clear hm h hp2
  go_enter Tryz.func46, Tryz.ntmps46
  go_wp2_with fail
  refine Calls.mono (HO.out _ hb H) ?_
  rintro e w1 ⟨rfl, h1⟩
  go_wp2_with fail
  refine Calls.mono (HE.out _ (by (repeat (with_reducible first | exact H | refine RdAt.alloc ?_ _ | refine RdAt.drewN ?_ _ | refine RdAt.drew ?_ | refine RdAt.below ?_ h1 | refine r_o ?_ _)))) ?_
  rintro e w2 ⟨rfl, h2, u2⟩
  go_wp2
  go_ret
  refine ⟨rfl, ?_, ?_⟩
  · repeat (with_reducible first | exact h2 | refine r_o ?_ _ | refine RdAt.alloc ?_ _ | refine RdAt.drewN ?_ _ | refine RdAt.drew ?_)
  · repeat (with_reducible first | exact Upd.refl _ _ | refine u_s ?_ _ | refine Upd.alloc ?_ _ | refine Upd.drewN ?_ _ | refine Upd.drew ?_ | refine Upd.trans ?_ (Upd.mono u2 (by simp)) | refine Upd.below ?_ h1)
theorem bTake_marking_esc (b r d : Nat) (tv : Value) (dg : ByteArray) (p : Pg) (w : World) (hb : BdAt w b r d tv dg) (h : RdAt w r d p) (hm : p.mode = 2 ∨ p.mode = 3) :
    Calls Tryz.prog 46 #[.pointer (some ⟨b, 0, none⟩), .int .u8 27] w fun e w' => e = .returned (.int .i64 1) ∧ RdAt w' r d { p.none' with mode := 0, anchor := 0 } ∧ Upd [r, d] w w' := by
  have HO : Hid (∀ ww, BdAt ww b r d tv dg → RdAt ww r d p → Calls Tryz.prog 64 #[.pointer (some ⟨b, 0, none⟩)] ww fun e w' => e = .returned (.iface 81 (.agg #[.pointer (some ⟨r, 0, none⟩)])) ∧ Below ww.heap.size ww w') := fun ww h1 h2 => mOn_marking b r d tv dg p ww h1 h2 hm
  have HE : Hid (∀ ww, RdAt ww r d p → Calls Tryz.prog 135 #[.pointer (some ⟨r, 0, none⟩)] ww fun e w' => e = .returned (.int .i64 1) ∧ RdAt w' r d { p.none' with mode := 0, anchor := 0 } ∧ Upd [r, d] ww w') := fun ww hh => mEscape r d p ww hh
  generalize hp2 : ({ p.none' with mode := 0, anchor := 0 } : Pg) = p2 at *
  have H := h
  have hmt := meth_marking_escape ⟨r, 0, none⟩
  clear hm h hp2
  go_enter Tryz.func46, Tryz.ntmps46
  go_wp2_with fail
  refine Calls.mono (HO.out _ hb H) ?_
  rintro e w1 ⟨rfl, h1⟩
  go_wp2_with fail
  refine Calls.mono (HE.out _ (by (repeat (with_reducible first | exact H | refine RdAt.alloc ?_ _ | refine RdAt.drewN ?_ _ | refine RdAt.drew ?_ | refine RdAt.below ?_ h1 | refine r_o ?_ _)))) ?_
  rintro e w2 ⟨rfl, h2, u2⟩
  go_wp2
  go_ret
  refine ⟨rfl, ?_, ?_⟩
  · repeat (with_reducible first | exact h2 | refine r_o ?_ _ | refine RdAt.alloc ?_ _ | refine RdAt.drewN ?_ _ | refine RdAt.drew ?_)
  · repeat (with_reducible first | exact Upd.refl _ _ | refine u_s ?_ _ | refine Upd.alloc ?_ _ | refine Upd.drewN ?_ _ | refine Upd.drew ?_ | refine Upd.trans ?_ (Upd.mono u2 (by simp)) | refine Upd.below ?_ h1)
theorem infoU8 : (Tryz.prog.info? 5).map (fun i => (i.zero, i.size, i.bytes)) = some (some (.int .u8 0), 1, 1) := by kernel_rfl
def own (v : Value) : List Nat := v.ownBlock.toList
theorem ownsRow_base {w : World} {a c e s : Nat} {v : Value} {n : Nat} {xs : List Value} (h : w.ownsRow a e s v n xs) (hc : c ≤ a) : w.ownsRow c e s v n xs := by
  refine ⟨h.1, ?_⟩
  rcases h.2 with h2 | ⟨g, cap, cur, h1, h2, h3⟩
  · exact Or.inl h2
  · exact Or.inr ⟨g, cap, cur, h1, Nat.le_trans hc h2, h3⟩
theorem ownsRow_upd {S : List Nat} {w w' : World} {e s : Nat} {v : Value} {n : Nat} {xs : List Value} {a : Nat} (h : w.ownsRow a e s v n xs) (hu : Upd S w w') (hn : ∀ k, k ∈ S → v.ownBlock ≠ some k) : w'.ownsRow a e s v n xs := by
  refine ⟨h.1, ?_⟩
  rcases h.2 with h2 | ⟨g, cap, cur, h1, h2, h3, h4⟩
  · exact Or.inl h2
  · refine Or.inr ⟨g, cap, cur, h1, h2, ?_, h4⟩
    rw [hu.block g (Array.getElem?_eq_some_iff.1 h3).1 (fun hk => hn g hk (by rw [h1]; rfl))]
    exact h3
theorem owned_some {w : World} {a e s : Nat} {v : Value} {n : Nat} {xs : List Value} (h : w.ownsRow a e s v n xs) (hn : 0 < n) : ∃ g cap, v = .slice (some ⟨g, 0, none⟩) n cap ∧ a ≤ g := by
  rcases h.2 with ⟨_, h2⟩ | ⟨g, cap, cur, h1, h2, _⟩
  · omega
  · exact ⟨g, cap, h1, h2⟩
theorem mKeep_grow (b r d : Nat) (tv : Value) (dg : ByteArray) (key : Int) (ao : Option Addr) (n cap : Nat) (xs : List Value) (w : World) (hb : BdAt w b r d tv dg) (htv : tv = .slice ao n cap) (hnone : ao = none → n = 0 ∧ cap = 0) (hsome : ∀ a, ao = some a → ∃ g, a = ⟨g, 0, none⟩)
    (ho : w.ownsRow 0 5 1 tv n xs) (hc : cap < n + 1) (hn : n ≤ 17592186044416) :
    Calls Tryz.prog 47 #[.pointer (some ⟨b, 1, none⟩), .int .u8 key, .int .i64 0] w fun e w' => e = .returned (.tuple #[]) ∧ ∃ tv', BdAt w' b r d tv' dg ∧ w'.ownsRow (w.heap.size + 1) 5 1 tv' (n + 1) (xs ++ [.int .u8 key]) ∧ Upd [b] w w' := by
  have HB := hb
  obtain ⟨b0, b1, b2, b3, b4, b5, bz, bl⟩ := hb
  subst htv
  obtain ⟨i0, hi, hz0, hz1, hz2⟩ := info_parts infoU8
  have HL : Hid (xs.length = n * 1) := ho.1
  have HO : Hid (∀ o : Obj, ∀ a, ao = some a → ∀ j u, xs[j]? = some u → (w.alloc o).cell? (a.add j) = some u) := by
    intro o a ha j u hu
    obtain ⟨g, rfl⟩ := hsome a ha
    subst ha
    exact (ho.alloc o).cells (g := g) rfl j u hu
  have HN : Hid (∀ j u, [Value.int .u8 key][j]? = some u → (w.alloc (.cells #[.int .u8 key] 5)).cell? ((⟨w.heap.size, 0, none⟩ : Addr).add j) = some u) := by
    intro j u hj
    match j, hj with
    | 0, hj => simp at hj; subst hj; simp [Addr.add]
  clear ho hsome
  go_enter Tryz.func47, Tryz.ntmps47
  go_wp2_with (first
    | (at_builtin; refine wpList_append_grows _ rfl (.tmp 24) (.tmp 26) 48 rfl 5 i0 (.int .u8 0) 1 1 Tryz.underlying48 hi hz0 hz1 hz2 rfl (by decide) ao n cap xs rfl hnone HL.out (HO.out _) ⟨w.heap.size, 0, none⟩ 1 1 [.int .u8 key] rfl rfl HN.out (by intro u hu; simp at hu; subst hu; rfl) hc (by unfold maxLen; omega) (by omega) ?_; intro tv' w1 hown hgrow; obtain ⟨g, cp, rfl, hg⟩ := owned_some hown (by omega); have U1 : Upd [] (w.alloc (.cells #[.int .u8 key] 5)) w1 := ⟨hgrow.os, hgrow.tape, hgrow.output, hgrow.size, fun k hk _ => hgrow.block k hk (by simp)⟩; have B1 := (HB.alloc (.cells #[.int .u8 key] 5)).upd U1 (by simp); have e1 := B1.c1; have ez := B1.fz; have hown' : Hid _ := hown; clear hown hgrow hg)
    | fail)
  go_end0
  have hq := ownsRow_setCell_below hown'.out (a := ⟨b, 1, none⟩) (by simp; omega) (.slice (some ⟨g, 0, none⟩) (n + 1) cp)
  rw [show (w.alloc (.cells #[.int .u8 key] 5)).heap.size = w.heap.size + 1 by simp] at hq
  refine ⟨rfl, _, B1.set_tv _, hq, ?_⟩
  refine Upd.setCell (Upd.trans (Upd.alloc (Upd.refl _ _) _) (U1.mono (by simp))) (Or.inl (by simp)) _
theorem mKeep_room (b r d g : Nat) (dg : ByteArray) (key : Int) (n cap : Nat) (xs : List Value) (w : World) (hb : BdAt w b r d (.slice (some ⟨g, 0, none⟩) n cap) dg) (hgb : g ≠ b)
    (ho : w.ownsRow 0 5 1 (.slice (some ⟨g, 0, none⟩) n cap) n xs) (hc : n + 1 ≤ cap) (hn : n ≤ 17592186044416) :
    Calls Tryz.prog 47 #[.pointer (some ⟨b, 1, none⟩), .int .u8 key, .int .i64 0] w fun e w' => e = .returned (.tuple #[]) ∧ BdAt w' b r d (.slice (some ⟨g, 0, none⟩) (n + 1) cap) dg ∧ w'.ownsRow 0 5 1 (.slice (some ⟨g, 0, none⟩) (n + 1) cap) (n + 1) (xs ++ [.int .u8 key]) ∧ Upd [b, g] w w' := by
  have HB := hb
  obtain ⟨b0, b1, b2, b3, b4, b5, bz, bl⟩ := hb
  obtain ⟨i0, hi, hz0, hz1, hz2⟩ := info_parts infoU8
  have HO : Hid (∀ o : Obj, (w.alloc o).ownsRow 0 5 1 (.slice (some ⟨g, 0, none⟩) n cap) n xs) := fun o => ho.alloc o
  have HN : Hid (∀ j u, [Value.int .u8 key][j]? = some u → (w.alloc (.cells #[.int .u8 key] 5)).cell? ((⟨w.heap.size, 0, none⟩ : Addr).add j) = some u) := by
    intro j u hj
    match j, hj with
    | 0, hj => simp at hj; subst hj; simp [Addr.add]
  clear ho
  go_enter Tryz.func47, Tryz.ntmps47
  go_wp2_with (first
    | (at_builtin; refine wpList_append_fits _ rfl (.tmp 24) (.tmp 26) 48 rfl 0 5 i0 1 Tryz.underlying48 hi hz1 g n cap xs rfl (HO.out _) ⟨w.heap.size, 0, none⟩ 1 1 [.int .u8 key] rfl rfl HN.out (by intro u hu; simp at hu; subst hu; rfl) hc ?_; intro w1 hown hgrow; have U1 : Upd [g] (w.alloc (.cells #[.int .u8 key] 5)) w1 := ⟨hgrow.os, hgrow.tape, hgrow.output, hgrow.size, fun k hk hk2 => hgrow.block k hk (by simp at hk2; simp [hk2])⟩; have B1 := (HB.alloc (.cells #[.int .u8 key] 5)).upd U1 (by simp; exact fun e => hgb e.symm); have e1 := B1.c1; have ez := B1.fz; have hown' : Hid _ := hown; clear hown hgrow)
    | fail)
  go_end0
  refine ⟨rfl, B1.set_tv _, ?_, ?_⟩
  · refine ownsRow_upd hown'.out (Upd.setCell (Upd.refl [b] _) (Or.inl (by simp)) _) ?_
    intro k hk
    simp at hk
    subst hk
    simp [Value.ownBlock, hgb]
  · refine Upd.setCell (Upd.trans (Upd.alloc (Upd.refl _ _) _) (U1.mono (by simp))) (Or.inl (by simp)) _
theorem mKeep_normal (b r d : Nat) (tv : Value) (dg : ByteArray) (key : Int) (n : Nat) (xs : List Value) (w : World) (hb : BdAt w b r d tv dg) (hne : tv.ownBlock ≠ some b)
    (ho : w.ownsRow 0 5 1 tv n xs) (hn : n ≤ 17592186044416) :
    Calls Tryz.prog 47 #[.pointer (some ⟨b, 1, none⟩), .int .u8 key, .int .i64 0] w fun e w' => e = .returned (.tuple #[]) ∧ ∃ tv', BdAt w' b r d tv' dg ∧ w'.ownsRow 0 5 1 tv' (n + 1) (xs ++ [.int .u8 key]) ∧ (tv'.ownBlock = tv.ownBlock ∨ ∃ g, tv'.ownBlock = some g ∧ w.heap.size ≤ g) ∧ Upd (b :: own tv) w w' := by
  rcases ho.2 with ⟨rfl, rfl⟩ | ⟨g, cap, cur, rfl, h1, h2, h3, h4⟩
  · refine Calls.mono (mKeep_grow b r d _ dg key none 0 0 xs w hb rfl (fun _ => ⟨rfl, rfl⟩) (fun a h => by cases h) ho (by omega) hn) ?_
    rintro e w' ⟨rfl, tv', hB, hO, hU⟩
    obtain ⟨g, cp, rfl, hg⟩ := owned_some hO (by omega)
    exact ⟨rfl, _, hB, ownsRow_base hO (Nat.zero_le _), Or.inr ⟨g, rfl, by omega⟩, hU.mono (by simp)⟩
  · by_cases hc : n + 1 ≤ cap
    · have hgb : g ≠ b := fun e => hne (by rw [e]; rfl)
      refine Calls.mono (mKeep_room b r d g dg key n cap xs w hb hgb ho hc hn) ?_
      rintro e w' ⟨rfl, hB, hO, hU⟩
      exact ⟨rfl, _, hB, hO, Or.inl rfl, hU.mono (by simp [own, Value.ownBlock])⟩
    · refine Calls.mono (mKeep_grow b r d _ dg key (some ⟨g, 0, none⟩) n cap xs w hb rfl (fun h => by cases h) (fun a h => ⟨g, by simpa using h.symm⟩) ho (by omega) hn) ?_
      rintro e w' ⟨rfl, tv', hB, hO, hU⟩
      obtain ⟨g', cp, rfl, hg⟩ := owned_some hO (by omega)
      exact ⟨rfl, _, hB, ownsRow_base hO (Nat.zero_le _), Or.inr ⟨g', rfl, by omega⟩, hU.mono (by simp)⟩
theorem mKeep_not (b r d : Nat) (tv : Value) (dg : ByteArray) (key mode : Int) (w : World) (hb : BdAt w b r d tv dg) (hm : mode = 2 ∨ mode = 3) :
    Calls Tryz.prog 47 #[.pointer (some ⟨b, 1, none⟩), .int .u8 key, .int .i64 mode] w fun e w' => e = .returned (.tuple #[]) ∧ Below w.heap.size w w' := by
  obtain ⟨b0, b1, b2, b3, b4, b5, bz, bl⟩ := hb
  rcases hm with hm | hm
  all_goals
    subst hm
    go_enter Tryz.func47, Tryz.ntmps47
    go_wp2
    go_end0
    exact ⟨rfl, Below.refl _ _⟩
theorem mEnd (b r d : Nat) (tv : Value) (dg : ByteArray) (O : Int) (w : World) (hb : BdAt w b r d tv dg) (hO : ¬ O = 2) :
    Calls Tryz.prog 48 #[.pointer (some ⟨b, 1, none⟩), .int .i64 O] w fun e w' => e = .returned (.tuple #[]) ∧ BdAt w' b r d (.slice none 0 0) dg ∧ Upd [b] w w' := by
  have HS := hb.set_tv (.slice none 0 0)
  obtain ⟨b0, b1, b2, b3, b4, b5, bz, bl⟩ := hb
  have hO' : (O == 2) = false := by simp [hO]
  clear hO
  go_enter Tryz.func48, Tryz.ntmps48
  go_wp2
  go_end0
  refine ⟨rfl, HS, ?_⟩
  repeat (with_reducible first | exact Upd.refl _ _ | assumption | refine u_s ?_ _ | refine Upd.alloc ?_ _ | refine Upd.drewN ?_ _ | refine Upd.drew ?_)
theorem hKeep_same (r d : Nat) (p : Pg) (w : World) (h : RdAt w r d p) (hn : p.now = p.t) :
    Calls Tryz.prog 49 #[.pointer (some ⟨d, 5, none⟩), .string p.t] w fun e w' => e = .returned (.tuple #[]) ∧ Below w.heap.size w w' := by
  obtain ⟨c0, c1, c2, c3, c4, c5, c6, c7, c8, c9, fz, lt⟩ := h.dk
  rw [hn] at c5
  clear c0 c1 c2 c3 c4 c6 c7 c8 c9 h hn
  go_enter Tryz.func49, Tryz.ntmps49
  go_wp2
  first | go_end0 | refine bodyPost_ret (results_none rfl _ _ _) rfl ?_
  exact ⟨rfl, Below.refl _ _⟩
end Go.Proofs.YtlendfhehhacpaaGreat
