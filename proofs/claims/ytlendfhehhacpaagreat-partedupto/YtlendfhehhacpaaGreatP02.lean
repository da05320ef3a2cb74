/- A part. -/
import Derived.Test.YtlendfhehhacpaaGreatProg
import Derived.WalkKit
import Derived.WalkSpells
import Derived.WalkLawsBesides
import Derived.Deep.RegionHeld3
import Derived.Test.YtlendfhehhacpaaGreatP01
set_option linter.unusedVariables false
set_option linter.unusedSimpArgs false
set_option maxRecDepth 100000
set_option maxHeartbeats 8000000
namespace Go.Proofs.YtlendfhehhacpaaGreat
open Go.RowKit
theorem bcell {W w1 : World} (hb : Below W.heap.size W w1) : (∀ b o, b < W.heap.size → w1.cell? ⟨b, o, none⟩ = W.cell? ⟨b, o, none⟩) ∧ (∀ b o, b < W.heap.size → w1.frozen? ⟨b, o, none⟩ = W.frozen? ⟨b, o, none⟩) :=
 ⟨fun b o h => hb.cell (p := ⟨b, o, none⟩) h, fun b o h => hb.frozen (p := ⟨b, o, none⟩) h⟩
theorem ret_int {k : IntKind} {a b : Int} (h : a = b) : Ending.returned (.int k a) = .returned (.int k b) := by rw [h]
theorem ret_bool {a b : Bool} (h : a = b) : Ending.returned (.bool a) = .returned (.bool b) := by rw [h]
structure Upd (S : List Nat) (w w' : World) : Prop where
 os : w'.os = w.os
 tape : w'.tape = w.tape
 output : w'.output = w.output
 size : w.heap.size ≤ w'.heap.size
 block : ∀ k, k < w.heap.size → k ∉ S → w'.heap[k]? = w.heap[k]?
theorem Upd.refl (S : List Nat) (w : World) : Upd S w w := ⟨rfl, rfl, rfl, Nat.le_refl _, fun _ _ _ => rfl⟩
theorem Upd.trans {S : List Nat} {a b c : World} (h : Upd S a b) (k : Upd S b c) : Upd S a c :=
 ⟨k.os.trans h.os, k.tape.trans h.tape, k.output.trans h.output, Nat.le_trans h.size k.size, fun i hi hn => (k.block i (Nat.lt_of_lt_of_le hi h.size) hn).trans (h.block i hi hn)⟩
theorem Upd.of_below {S : List Nat} {w w' : World} (h : Below w.heap.size w w') : Upd S w w' := ⟨h.os, h.tape, h.output, h.size, fun k hk _ => h.block k hk⟩
theorem Upd.below {S : List Nat} {a w w' : World} (h : Upd S a w) (hb : Below w.heap.size w w') : Upd S a w' := h.trans (Upd.of_below hb)
theorem Upd.alloc {S : List Nat} {a w : World} (h : Upd S a w) (o : Obj) : Upd S a (w.alloc o) := h.below ((Below.refl _ _).alloc (Nat.le_refl _) _)
theorem Upd.drewN {S : List Nat} {a w : World} (h : Upd S a w) (n : Nat) : Upd S a (w.drewN n) := h.below (below_drewN (Below.refl _ _) _)
theorem Upd.drew {S : List Nat} {a w : World} (h : Upd S a w) : Upd S a w.drew := h.below (Below.refl _ _).drew
theorem Upd.setCell {S : List Nat} {a w : World} (h : Upd S a w) {p : Addr} (hp : p.block ∈ S ∨ a.heap.size ≤ p.block) (u : Value) : Upd S a (w.setCell p u) :=
  ⟨h.os, h.tape, h.output, by have := h.size; simp [World.setCell]; exact this, fun k hk hn => by
    rw [Below.heap_setCell _ _ _ _ (by rcases hp with hp | hp
                                       · exact fun e => hn (e ▸ hp)
                                       · omega)]
    exact h.block k hk hn⟩
theorem Upd.mono {S T : List Nat} {a w : World} (h : Upd S a w) (hs : ∀ k, k ∈ S → k ∈ T) : Upd T a w :=
 ⟨h.os, h.tape, h.output, h.size, fun k hk hn => h.block k hk (fun e => hn (hs k e))⟩
theorem cell_set_same {w : World} {b o : Nat} {v u : Value} (h : w.cell? ⟨b, o, none⟩ = some u) : (w.setCell ⟨b, o, none⟩ v).cell? ⟨b, o, none⟩ = some v := World.cell?_setCell_same (w := w) (a := ⟨b, o, none⟩) (v := v) h
theorem cell_set_off {w : World} {b o o' : Nat} {v : Value} (h : o ≠ o') : (w.setCell ⟨b, o, none⟩ v).cell? ⟨b, o', none⟩ = w.cell? ⟨b, o', none⟩ :=
 World.cell?_setCell_other (w := w) (a := ⟨b, o, none⟩) (b := ⟨b, o', none⟩) (v := v) (fun e => h (by injection e))
theorem b_s {B : Nat} {a w : World} (h : Below B a w) {p : Addr} (u : Value) (hp : B ≤ p.block := by first | omega | (simp <;> omega)) : Below B a (w.setCell p u) := h.setCell hp u
theorem b_a {B : Nat} {a w : World} (h : Below B a w) (o : Obj) (hB : B ≤ w.heap.size := by first | omega | (simp <;> omega)) : Below B a (w.alloc o) := h.alloc hB o
theorem b_t {B C : Nat} {a v w : World} (h : Below B a v) (g : Below C v w) (hB : B ≤ C := by first | omega | (simp <;> omega)) : Below B a w := h.trans (g.mono hB)
theorem u_s {S : List Nat} {a w : World} (h : Upd S a w) {p : Addr} (u : Value) (hp : p.block ∈ S ∨ a.heap.size ≤ p.block := by first | (left; simp; done) | (right; first | omega | (simp <;> omega))) : Upd S a (w.setCell p u) := h.setCell hp u
abbrev qC (f : Nat) (l : Array Value) (w : World) (v : Value) : Prop := Calls Tryz.prog f l w fun e w' => e = .returned v ∧ Below w.heap.size w w'
theorem qB {B : Nat} {a w : World} (h : Below B a w := by repeat (with_reducible first | exact Below.refl _ _ | refine b_s ?_ _ | refine b_a ?_ _ | refine Below.drew ?_ | refine below_drewN ?_ _ | refine b_t ?_ (by with_reducible assumption))) : Below B a w := h
theorem qU {S : List Nat} {a w : World} (h : Upd S a w := by repeat (with_reducible first | exact Upd.refl _ _ | assumption | refine u_s ?_ _ | refine Upd.alloc ?_ _ | refine Upd.drewN ?_ _ | refine Upd.drew ?_ | refine Upd.trans ?_ (Upd.mono (by with_reducible assumption) (by simp)) | refine Upd.below ?_ (by with_reducible assumption))) : Upd S a w := h
theorem qL (a b : Nat) (h : a < b := by omega) : a < b ∧ a < b + 1 := ⟨h, Nat.lt_succ_of_lt h⟩
theorem qb {W w1 : World} (hb : Below W.heap.size W w1) : (∀ b o, b < W.heap.size → w1.cell? ⟨b, o, none⟩ = W.cell? ⟨b, o, none⟩) ∧ (∀ b o, b < W.heap.size → w1.frozen? ⟨b, o, none⟩ = W.frozen? ⟨b, o, none⟩) ∧ W.heap.size ≤ w1.heap.size := ⟨(bcell hb).1, (bcell hb).2, hb.size⟩
theorem qV {P : Program} {fn : Func} {a : Act} {w w0 : World} {x : Value} {B : Nat} (v : Value) (hr : (results fn a.tmps).run P w = .ok v w) (he : Ending.returned v = .returned x) (hb : Below B w0 w := by exact qB) (hd : a.defers = [] := by rfl) : bodyPost P fn (fun e w' => e = .returned x ∧ Below B w0 w') .ret a w := bodyPost_ret hr hd ⟨he, hb⟩
abbrev qH (f : Nat) (l : Array Value) (v : Value) : Prop := Hid (∀ ww, qC f l ww v)
theorem qo {P : Prop} (h : P := by omega) : P := h
theorem qs {P : Prop} (h : P := by simp; omega) : P := h
theorem qi {P : Prop} (h : P := by simp) : P := h
theorem qd {P : Prop} (h : P := by decide) : P := h
theorem qk {P : Prop} (h : P := by kernel_rfl) : P := h
theorem qm {P : Prop} (h : P := by unfold maxLen; omega) : P := h
theorem qf {P : Prop} (h : P := by first | (simp; done) | (simp; omega)) : P := h
theorem qO {P : Prop} (h : P := by first | omega | (simp <;> omega)) : P := h
theorem qT {P : Program} {ops : Array Oper} {Q : Exit → Act → World → Prop} {md : Region.Mode} {S : World → Prop} (i : Nat) {oi : Oper} {v : Value} {fuel : Nat} {listed : Array Bool} {a : Act} {w : World} (h : wpAnyH P md ops Q S fuel (listed.setIfInBounds i true) (a.put oi.dst v) w) (hi : ops[i]? = some oi := by simp only [List.getElem?_toArray, List.getElem?_cons_succ, List.getElem?_cons_zero]; rfl) (hs : Region.noSelect ops = true := by kernel_rfl) (hf : Region.free md ops listed i = true := by kernel_rfl) (hr : (Region.ready md ops listed).contains i = true := by kernel_rfl) (hQ : ∀ c a w, Q (.panic c) (a.put oi.dst v) w → Q (.panic c) a w := by exact fun _ _ _ h => h) (hy : YieldsIf P ops S oi v a := by exact Or.inl ⟨by kernel_rfl, fun w hSw => by (try dsimp only at hSw); go_simp; first | done | with_reducible rfl⟩) (hS : S w := by assumption) : wpAnyH P md ops Q S (fuel + 1) listed a w := wpAnyH_take hi hs hf hr hQ hy hS h
theorem qS {P : Program} {ops : Array Oper} {Q : Exit → Act → World → Prop} {md : Region.Mode} {S : World → Prop} (i : Nat) {oi : Oper} {v : Value} {fuel : Nat} {listed : Array Bool} {a : Act} {w : World} (h : wpAnyH P md ops Q S fuel (listed.setIfInBounds i true) (a.put oi.dst v) w) (hi : ops[i]? = some oi := by simp only [List.getElem?_toArray, List.getElem?_cons_succ, List.getElem?_cons_zero]; rfl) (hs : Region.noSelect ops = true := by kernel_rfl) (hf : Region.free md ops listed i = true := by kernel_rfl) (hr : (Region.ready md ops listed).contains i = true := by kernel_rfl) (hQ : ∀ c a w, Q (.panic c) (a.put oi.dst v) w → Q (.panic c) a w := by exact fun _ _ _ h => h) (hy : YieldsIf P ops S oi v a := by exact Or.inr ⟨by kernel_rfl, rfl⟩) (hS : S w := by assumption) : wpAnyH P md ops Q S (fuel + 1) listed a w := wpAnyH_take hi hs hf hr hQ hy hS h
theorem qP : (∀ {α : Type} (l : List α) (i : Nat) (x : α), l.toArray.setIfInBounds i x = (l.set i x).toArray) ∧ (∀ {α : Type} (x y : α) (l : List α), (x :: l).set 0 y = y :: l) ∧ (∀ {α : Type} (x y : α) (i : Nat) (l : List α), (x :: l).set (i + 1) y = x :: l.set i y) := ⟨fun _ _ _ => by simp, fun _ _ _ => rfl, fun _ _ _ _ => rfl⟩
theorem qR {P : Program} {ops : Array Oper} {Q : Exit → Act → World → Prop} {md : Region.Mode} {S : World → Prop} (i : Nat) {o : Oper} {fuel : Nat} {listed : Array Bool} {a : Act} {w : World} (h : ∀ K' : Act → World → Prop, Shut (∀ a w, S w → (S w → wpAnyH P md ops Q S fuel (listed.setIfInBounds i true) a w) → K' a w) → if Region.wanted o (yielded ops a.tmps) = true then Oper.wp P o a w K' Q else K' (a.put o.dst undef) w) (ho : ops[i]? = some o := by rfl) (hr : Region.ready md ops listed = [i] := by kernel_rfl) : wpAnyH P md ops Q S (fuel + 1) listed a w := wpAnyH_ready hr (by simp) (AllReadyH.cons ho h AllReadyH.nil)
structure Two (w : World) (b : Nat) (x y : Int) : Prop where
 c0 : w.cell? ⟨b, 0, none⟩ = some (.int .i64 x)
 c1 : w.cell? ⟨b, 1, none⟩ = some (.int .i64 y)
 fz : ∀ o, w.frozen? ⟨b, o, none⟩ = false
 lt : b < w.heap.size
theorem Two.of_block {w w' : World} {b : Nat} {x y : Int} (h : Two w b x y) (hb : w'.heap[b]? = w.heap[b]?) (hz : w.heap.size ≤ w'.heap.size) : Two w' b x y := by
 have hc : ∀ o, w'.cell? ⟨b, o, none⟩ = w.cell? ⟨b, o, none⟩ := fun o => World.cell?_of_block (w := w) hb
 have hf : ∀ o, w'.frozen? ⟨b, o, none⟩ = w.frozen? ⟨b, o, none⟩ := fun o => World.frozen?_of_block (w := w) hb
 exact ⟨(hc _).trans h.c0, (hc _).trans h.c1, fun o => (hf o).trans (h.fz o), Nat.lt_of_lt_of_le h.lt hz⟩
theorem Two.below {w w' : World} {b : Nat} {x y : Int} (h : Two w b x y) (hb : Below w.heap.size w w') : Two w' b x y := h.of_block (hb.block b h.lt) hb.size
theorem Two.alloc {w : World} {b : Nat} {x y : Int} (h : Two w b x y) (o : Obj) : Two (w.alloc o) b x y := h.below ((Below.refl _ _).alloc (Nat.le_refl _) _)
theorem Two.drewN {w : World} {b : Nat} {x y : Int} (h : Two w b x y) (n : Nat) : Two (w.drewN n) b x y := h.below (below_drewN (Below.refl _ _) _)
theorem Two.drew {w : World} {b : Nat} {x y : Int} (h : Two w b x y) : Two w.drew b x y := h.below (Below.refl _ _).drew
theorem Two.other {w : World} {b : Nat} {x y : Int} (h : Two w b x y) {p : Addr} (hp : b ≠ p.block) (u : Value) : Two (w.setCell p u) b x y :=
 h.of_block (Below.heap_setCell _ _ _ _ hp) (by simp [World.setCell])
theorem frozen_set {w : World} {b o o' : Nat} {v : Value} : (w.setCell ⟨b, o, none⟩ v).frozen? ⟨b, o', none⟩ = w.frozen? ⟨b, o', none⟩ := World.frozen?_setCell w _ _ _
theorem Two.set0 {w : World} {b : Nat} {x y : Int} (h : Two w b x y) (z : Int) : Two (w.setCell ⟨b, 0, none⟩ (.int .i64 z)) b z y :=
 ⟨cell_set_same h.c0, (cell_set_off (by decide)).trans h.c1, fun o => (frozen_set).trans (h.fz o), by simp [World.setCell]; exact h.lt⟩
theorem Two.set1 {w : World} {b : Nat} {x y : Int} (h : Two w b x y) (z : Int) : Two (w.setCell ⟨b, 1, none⟩ (.int .i64 z)) b x z :=
 ⟨(cell_set_off (by decide)).trans h.c0, cell_set_same h.c1, fun o => (frozen_set).trans (h.fz o), by simp [World.setCell]; exact h.lt⟩
theorem Two.new (w : World) (x y : Int) (t : Nat) : Two (w.alloc (.cells #[.int .i64 x, .int .i64 y] t)) w.heap.size x y :=
 ⟨by simp, by simp, by simp, by simp⟩
theorem t_o {w : World} {b : Nat} {x y : Int} (h : Two w b x y) {p : Addr} (u : Value) (hp : b ≠ p.block := by first | omega | (simp <;> omega)) : Two (w.setCell p u) b x y := h.other hp u
theorem qN {w : World} {b : Nat} {x y : Int} {t : Nat} (h : b = w.heap.size := by simp) : Two (w.alloc (.cells #[.int .i64 x, .int .i64 y] t)) b x y := h ▸ Two.new w x y t
theorem qTw {w : World} {b : Nat} {x y : Int} (h : Two w b x y := by repeat (with_reducible first | assumption | refine t_o ?_ _ | refine Two.alloc ?_ _ | refine Two.drewN ?_ _ | refine Two.drew ?_ | refine Two.below ?_ (by with_reducible assumption))) : Two w b x y := h
theorem memLater {w w' : World} {b o : Nat} {v : Value} (h : Below w.heap.size w w') (hc : w.cell? ⟨b, o, none⟩ = some v) : w'.cell? ⟨b, o, none⟩ = some v := by
 have hb : b < w.heap.size := World.block_lt_of_cell? w ⟨b, o, none⟩ hc
 rw [h.cell (p := ⟨b, o, none⟩) hb]; exact hc
theorem memSet {w : World} {n b o o' : Nat} {v : Value} (h : n ≠ b) : (w.setCell ⟨n, o, none⟩ v).cell? ⟨b, o', none⟩ = w.cell? ⟨b, o', none⟩ :=
 World.cell?_setCell_other (w := w) (a := ⟨n, o, none⟩) (b := ⟨b, o', none⟩) (v := v) (fun e => h (by injection e))
theorem qM {P : Prop} (h : P := by repeat (first | with_reducible assumption | (with_reducible refine memLater ((Below.refl _ _).alloc (Nat.le_refl _) _) ?_) | (with_reducible refine memLater ((Below.refl _ _).drew) ?_) | (with_reducible refine memLater (by with_reducible assumption) ?_) | (with_reducible refine (memSet (by omega)).trans ?_) | (go_simp; done) | assumption)) : P := h
theorem qK {P : Prop} (h : P := by and_intros <;> first | (go_simp; done) | exact qM) : P := h
theorem qt22 {P : Prop} (h : P := by
  go_enter Tryz.func268, Tryz.ntmps268
  go_wp2
  go_loop [5] (fun i => ∃ k : Nat, k ≤ s.size ∧ i = .int .i64 ((k : Int) - 1) ∧ Hid (Nib.dn (fun i => Nib.bt s i != c) k = Nib.dn (fun i => Nib.bt s i != c) s.size)) (fun i => (intOf i + 1).toNat)
  case atStart => exact ⟨s.size, Nat.le_refl _, by go_num, rfl⟩
  case round =>
   obtain ⟨k, hk, rfl, hb⟩ := hrel
   cases k with
   | zero =>
    go_wp2
    go_ret
    exact ⟨ret_int (by rw [← hb.out]; rfl), rfl⟩
   | succ k =>
    have hlt : k < s.size := by omega
    have e1 : ((k + 1 : Nat) : Int) - 1 = (k : Int) := by omega
    by_cases hc : Nib.bt s k = c
    ·have hc' : (((s[k]'hlt).toNat : Int) == c) = true := by rw [Nib.bt_in hlt] at hc; simp [hc]
     have hd : Nib.dn (fun i => Nib.bt s i != c) (k + 1) = k + 1 := Nib.dn_stop (by simp [hc])
     have H := hb.out; rw [hd] at H; clear hb hd hc
     have HH : Hid (k + 1 = Nib.dn (fun i => Nib.bt s i != c) s.size) := H
     clear H
     rw [e1]
     go_wp2
     go_ret
     exact ⟨ret_int (by rw [← HH.out]; omega), rfl⟩
    ·have hc' : (((s[k]'hlt).toNat : Int) == c) = false := by rw [Nib.bt_in hlt] at hc; simp [hc]
     have hd : Nib.dn (fun i => Nib.bt s i != c) (k + 1) = Nib.dn (fun i => Nib.bt s i != c) k := Nib.dn_step (by simp [hc])
     have H := hb.out; rw [hd] at H; clear hb hd hc
     have HH : Hid (Nib.dn (fun i => Nib.bt s i != c) k = Nib.dn (fun i => Nib.bt s i != c) s.size) := H
     clear H
     rw [e1]
     go_wp2
     go_round
     case rel => exact ⟨k, by omega, by go_num, HH⟩
     case measure => simp [intOf]
 ) : P := h
theorem lastIB_any (s : ByteArray) (c : Int) (w : World) (hs : s.size ≤ 1000) :
  Calls Tryz.prog 268 #[.string s, .int .u8 c] w fun e w' => e = .returned (.int .i64 (((Nib.dn (fun i => Nib.bt s i != c) s.size : Nat) : Int) - 1)) ∧ w' = w := by
 exact qt22
theorem lastIndexByte_any (s : ByteArray) (c : Int) (w : World) (hs : s.size ≤ 1000) :
  Calls Tryz.prog 228 #[.string s, .int .u8 c] w fun e w' => e = .returned (.int .i64 (((Nib.dn (fun i => Nib.bt s i != c) s.size : Nat) : Int) - 1)) ∧ w' = w := by
 go_enter Tryz.func228, Tryz.ntmps228
 go_wp2_with fail
 refine (lastIB_any s c w hs).mono ?_
 rintro e w' ⟨rfl, rfl⟩
 go_wp2
 go_ret
 exact ⟨rfl, rfl⟩
theorem indexIB_any (s : ByteArray) (c : Int) (w : World) :
  (callFunc 289 #[.string s, .int .u8 c]).run Tryz.prog w = .ok (.value (.int .i64 (firstIdx s c.toNat.toUInt8))) w := by
 rw [run_callFunc_extern Tryz.func289 qk qk qk (e := Extern.BytealgIndexByte.indexByte) qk, run_indexByte_string]
 rfl
theorem indexByte_any (s : ByteArray) (c : Int) (w : World) :
  Calls Tryz.prog 229 #[.string s, .int .u8 c] w fun e w' => e = .returned (.int .i64 (firstIdx s c.toNat.toUInt8)) ∧ w' = w := by
 have h := indexIB_any s c w
 go_enter Tryz.func229, Tryz.ntmps229
 go_wp2
 go_ret
 exact ⟨rfl, rfl⟩
theorem qt38 {P : Prop} (h : P := by
  rintro e w' ⟨rfl, rfl⟩
  rw [HB.out]
  go_wp2_with fail
  refine (indexByte_any (s.extract k s.size) 10 _).mono ?_
  rintro e w' ⟨rfl, rfl⟩
  rw [HF.out]
  by_cases hl : F < s.size
  ·rw [if_pos hl]
   go_wp2
   refine bodyPost_ret (v := .agg #[.int .i64 B, .int .i64 (k + (F - k))]) (by simp [results, Tryz.results195, go_sem]) rfl ⟨by rw [show (k : Int) + (F - k) = F by omega], ?_⟩
   repeat (with_reducible first | exact Below.refl _ _ | refine b_s ?_ _ | refine b_a ?_ _ | refine Below.drew ?_ | refine below_drewN ?_ _)
  ·rw [if_neg hl]
   go_wp2
   refine bodyPost_ret (v := .agg #[.int .i64 B, .int .i64 s.size]) (by simp [results, Tryz.results195, go_sem]) rfl ⟨by rw [HE hl], ?_⟩
   repeat (with_reducible first | exact Below.refl _ _ | refine b_s ?_ _ | refine b_a ?_ _ | refine Below.drew ?_ | refine below_drewN ?_ _)
 ) : P := h
theorem tLine_any (s : ByteArray) (p : Int) (k : Nat) (w : World) (hs : s.size ≤ 1000) (e : p = k) (hk : k ≤ s.size) :
  qC 195 #[.string s, .int .i64 p] w (.agg #[.int .i64 (Nib.beg s k), .int .i64 (Nib.fin s k)]) := by
 subst e
 have h1 : (s.extract 0 k).size = k := by rw [ByteArray.size_extract]; omega
 have h2 : (s.extract k s.size).size = s.size - k := by rw [ByteArray.size_extract]; omega
 have HB : Hid (((Nib.dn (fun i => Nib.bt (s.extract 0 k) i != 10) (s.extract 0 k).size : Nat) : Int) = Nib.beg s k) := by rw [Hid, h1, Nib.dn_cut hk]
 have HF : Hid (firstIdx (s.extract k s.size) (10 : Int).toNat.toUInt8 = if Nib.fin s k < s.size then ((Nib.fin s k : Nat) : Int) - k else -1) := by
  have := Nib.fin_ge s k
  rw [Hid, Nib.first_up _ 10 qo qo, h2, Nib.up_cut hk]
  by_cases h : Nib.fin s k < s.size
  ·rw [if_pos h, if_pos qo]; omega
  ·rw [if_neg h, if_neg qo]
 have hbl := Nib.beg_le s k
 have hfl := Nib.fin_le hk
 have hfg := Nib.fin_ge s k
 have HE : ¬ Nib.fin s k < s.size → Nib.fin s k = s.size := by omega
 generalize Nib.beg s k = B at *
 generalize Nib.fin s k = F at *
 go_enter Tryz.func195, Tryz.ntmps195
 go_wp2_with fail
 refine (lastIndexByte_any (s.extract 0 k) 10 _ qo).mono ?_
 exact qt38
theorem qt54 {P : Prop} (h : P := by
  go_enter Tryz.func202, Tryz.ntmps202
  go_wp2
  ·refine bodyPost_ret (v := .int .i64 (b - 1)) (by simp [results, Tryz.results202, go_sem]) rfl ⟨ret_int qo, ?_⟩
   repeat (with_reducible first | exact Below.refl _ _ | refine b_s ?_ _ | refine b_a ?_ _ | refine Below.drew ?_ | refine below_drewN ?_ _)
  ·refine bodyPost_ret (v := .int .i64 a) (by simp [results, Tryz.results202, go_sem]) rfl ⟨ret_int qo, ?_⟩
   repeat (with_reducible first | exact Below.refl _ _ | refine b_s ?_ _ | refine b_a ?_ _ | refine Below.drew ?_ | refine below_drewN ?_ _)
 ) : P := h
theorem tLast_any (a b : Int) (w : World) (h : -5000 ≤ b ∧ b ≤ 5000) :
  qC 202 #[.agg #[.int .i64 (a), .int .i64 (b)]] w (.int .i64 (max a (b - 1))) := by
 exact qt54
theorem tColumn_any (a b c : Int) (w : World) (h : -5000 ≤ b ∧ b ≤ 5000) (h2 : -5000 ≤ a + c ∧ a + c ≤ 5000) :
  qC 245 #[.agg #[.int .i64 (a), .int .i64 (b)], .int .i64 c] w (.int .i64 (min (a + c) (max a (b - 1)))) := by
 have HM : Hid (min (a + c) (max a (b - 1)) = if a + c < max a (b - 1) then a + c else max a (b - 1)) := by rw [Hid]; omega
 generalize min (a + c) (max a (b - 1)) = y at *
 generalize hm : max a (b - 1) = m at *
 have HL : qH 202 #[.agg #[.int .i64 (a), .int .i64 (b)]] (.int .i64 m) := by
  intro ww; rw [← hm]; exact tLast_any a b ww h
 clear hm
 have hw : IntKind.i64.wrap (a + c) = a + c := by rw [IntKind.wrap_i64]; omega
 go_enter Tryz.func245, Tryz.ntmps245
 go_wp2_with fail
 go_region_held3 (fun ww => ww.cell? ⟨w.heap.size, 0, none⟩ = some (.int .i64 a) ∧ ww.cell? ⟨w.heap.size, 1, none⟩ = some (.int .i64 b)) ((refine ⟨?_, ?_⟩ <;> go_simp)) ((go_at_call 202; refine (HL.out _).mono ?_; rintro r1 w1 ⟨rfl, h1⟩; obtain ⟨hc1, hf1, hz1⟩ := qb h1; (try simp at hz1); (try have ⟨hl1_0, hk1_0⟩ := qL w.heap.size w1.heap.size)))
 go_wp2
 ·refine bodyPost_ret (v := .int .i64 m) (by simp [results, Tryz.results245, go_sem]) rfl ⟨ret_int (by rw [HM.out, if_neg qo]), ?_⟩
  repeat (with_reducible first | exact Below.refl _ _ | refine b_s ?_ _ | refine b_a ?_ _ | refine Below.drew ?_ | refine below_drewN ?_ _ | refine b_t ?_ h1)
 ·refine bodyPost_ret (v := .int .i64 (a + c)) (by simp [results, Tryz.results245, go_sem]) rfl ⟨ret_int (by rw [HM.out]; split <;> omega), ?_⟩
  repeat (with_reducible first | exact Below.refl _ _ | refine b_s ?_ _ | refine b_a ?_ _ | refine Below.drew ?_ | refine below_drewN ?_ _ | refine b_t ?_ h1)
theorem tIsEmpty_any (a b : Int) (w : World) :
  qC 185 #[.agg #[.int .i64 (a), .int .i64 (b)]] w (.bool (a == b)) := by
 go_enter Tryz.func185, Tryz.ntmps185
 go_wp2
 refine bodyPost_ret (v := .bool (a == b)) (by simp [results, Tryz.results185, go_sem]) rfl ⟨rfl, ?_⟩
 repeat (with_reducible first | exact Below.refl _ _ | refine b_s ?_ _ | refine b_a ?_ _ | refine Below.drew ?_ | refine below_drewN ?_ _)
theorem tJoin_any (a b c d : Int) (w : World) :
  qC 196 #[.agg #[.int .i64 (a), .int .i64 (b)], .agg #[.int .i64 (c), .int .i64 (d)]] w (.agg #[.int .i64 (min a c), .int .i64 (max b d)]) := by
 have e1 : min a c = if c < a then c else a := by omega
 have e2 : max b d = if b < d then d else b := by omega
 rw [e1, e2]
 clear e1 e2
 by_cases h1 : c < a <;> by_cases h2 : b < d <;> simp only [h1, h2, if_true, if_false]
 ·go_enter Tryz.func196, Tryz.ntmps196
  go_wp2
  refine bodyPost_ret (v := .agg #[.int .i64 (c), .int .i64 (d)]) (by simp [results, Tryz.results196, go_sem]) rfl ⟨rfl, ?_⟩
  repeat (with_reducible first | exact Below.refl _ _ | refine b_s ?_ _ | refine b_a ?_ _ | refine Below.drew ?_ | refine below_drewN ?_ _)
 ·go_enter Tryz.func196, Tryz.ntmps196
  go_wp2
  refine bodyPost_ret (v := .agg #[.int .i64 (c), .int .i64 (b)]) (by simp [results, Tryz.results196, go_sem]) rfl ⟨rfl, ?_⟩
  repeat (with_reducible first | exact Below.refl _ _ | refine b_s ?_ _ | refine b_a ?_ _ | refine Below.drew ?_ | refine below_drewN ?_ _)
 ·go_enter Tryz.func196, Tryz.ntmps196
  go_wp2
  refine bodyPost_ret (v := .agg #[.int .i64 (a), .int .i64 (d)]) (by simp [results, Tryz.results196, go_sem]) rfl ⟨rfl, ?_⟩
  repeat (with_reducible first | exact Below.refl _ _ | refine b_s ?_ _ | refine b_a ?_ _ | refine Below.drew ?_ | refine below_drewN ?_ _)
 ·go_enter Tryz.func196, Tryz.ntmps196
  go_wp2
  refine bodyPost_ret (v := .agg #[.int .i64 (a), .int .i64 (b)]) (by simp [results, Tryz.results196, go_sem]) rfl ⟨rfl, ?_⟩
  repeat (with_reducible first | exact Below.refl _ _ | refine b_s ?_ _ | refine b_a ?_ _ | refine Below.drew ?_ | refine below_drewN ?_ _)
theorem tIsWord_any (c : Int) (w : World) :
  Calls Tryz.prog 266 #[.int .u8 c] w fun e w' => e = .returned (.bool (decide (128 ≤ c ∨ c = 95 ∨ (48 ≤ c ∧ c ≤ 57) ∨ (65 ≤ c ∧ c ≤ 90) ∨ (97 ≤ c ∧ c ≤ 122)))) ∧ w' = w := by
 go_enter Tryz.func266, Tryz.ntmps266
 go_wp2
 all_goals
  go_ret
  exact ⟨ret_bool (by first | (rw [Bool.eq_iff_iff]; done) | (rw [Bool.eq_iff_iff]; simp; done) | (rw [Bool.eq_iff_iff]; simp; omega)), rfl⟩
theorem tClass_any (c : Int) (g : Bool) (w : World) :
  Calls Tryz.prog 225 #[.int .u8 c, .bool g] w fun e w' => e = .returned (.int .i64 (Nib.cls c g)) ∧ w' = w := by
 generalize hx : Nib.cls c g = x
 have HX : Hid (x = if Nib.blk c = true then 0 else if c = 10 then 1 else if g = true ∨ 128 ≤ c ∨ c = 95 ∨ (48 ≤ c ∧ c ≤ 57) ∨ (65 ≤ c ∧ c ≤ 90) ∨ (97 ≤ c ∧ c ≤ 122) then 2 else 3) := hx.symm
 clear hx
 by_cases h32 : c = 32
 ·have HY : Hid (x = 0) := by rw [Hid, HX.out, if_pos (by simp [Nib.blk, h32])]
  clear HX
  go_enter Tryz.func225, Tryz.ntmps225
  go_wp2
  go_ret
  exact ⟨ret_int (by rw [HY.out]), rfl⟩
 by_cases h9 : c = 9
 ·have HY : Hid (x = 0) := by rw [Hid, HX.out, if_pos (by simp [Nib.blk, h9])]
  clear HX
  go_enter Tryz.func225, Tryz.ntmps225
  go_wp2
  go_ret
  exact ⟨ret_int (by rw [HY.out]), rfl⟩
 by_cases h10 : c = 10
 ·have HY : Hid (x = 1) := by rw [Hid, HX.out, if_neg (by simp [Nib.blk, h32, h9]), if_pos h10]
  clear HX
  subst h10
  go_enter Tryz.func225, Tryz.ntmps225
  go_wp2
  go_ret
  exact ⟨ret_int (by rw [HY.out]), rfl⟩
 have HY : Hid (x = if g = true ∨ 128 ≤ c ∨ c = 95 ∨ (48 ≤ c ∧ c ≤ 57) ∨ (65 ≤ c ∧ c ≤ 90) ∨ (97 ≤ c ∧ c ≤ 122) then 2 else 3) := by rw [Hid, HX.out, if_neg (by simp [Nib.blk, h32, h9]), if_neg h10]
 clear HX
 have b32 : (c == 32) = false := by simp [h32]
 have b9 : (c == 9) = false := by simp [h9]
 have b10 : (c == 10) = false := by simp [h10]
 cases g with
 | true =>
  have HZ : Hid (x = 2) := by rw [Hid, HY.out]; simp
  clear HY
  go_enter Tryz.func225, Tryz.ntmps225
  go_wp2
  go_ret
  exact ⟨ret_int (by rw [HZ.out]), rfl⟩
 | false =>
  by_cases hq : (128 ≤ c ∨ c = 95 ∨ (48 ≤ c ∧ c ≤ 57) ∨ (65 ≤ c ∧ c ≤ 90) ∨ (97 ≤ c ∧ c ≤ 122))
  ·have HZ : Hid (x = 2) := by rw [Hid, HY.out, if_pos (Or.inr hq)]
   have HW : Hid (decide (128 ≤ c ∨ c = 95 ∨ (48 ≤ c ∧ c ≤ 57) ∨ (65 ≤ c ∧ c ≤ 90) ∨ (97 ≤ c ∧ c ≤ 122)) = true) := by rw [Hid]; exact decide_eq_true hq
   clear HY hq
   go_enter Tryz.func225, Tryz.ntmps225
   go_wp2_with fail
   refine (tIsWord_any c _).mono ?_
   rintro e w' ⟨rfl, rfl⟩
   rw [HW.out]
   go_wp2
   go_ret
   exact ⟨ret_int (by rw [HZ.out]), rfl⟩
  ·have HZ : Hid (x = 3) := by rw [Hid, HY.out, if_neg (by simp only [Bool.false_eq_true, false_or]; exact hq)]
   have HW : Hid (decide (128 ≤ c ∨ c = 95 ∨ (48 ≤ c ∧ c ≤ 57) ∨ (65 ≤ c ∧ c ≤ 90) ∨ (97 ≤ c ∧ c ≤ 122)) = false) := by rw [Hid]; exact decide_eq_false hq
   clear HY hq
   go_enter Tryz.func225, Tryz.ntmps225
   go_wp2_with fail
   refine (tIsWord_any c _).mono ?_
   rintro e w' ⟨rfl, rfl⟩
   rw [HW.out]
   go_wp2
   go_ret
   exact ⟨ret_int (by rw [HZ.out]), rfl⟩
theorem qt56 {P : Prop} (h : P := by
  generalize Nib.att s m = D at *
  go_enter Tryz.func223, Tryz.ntmps223
  go_wp2_with fail
  refine (HL.out _).mono ?_
  rintro e w1 ⟨rfl, h1⟩
  obtain ⟨hc1, hf1, hz1⟩ := qb h1
  try simp at hz1
  go_wp2
  refine bodyPost_ret (v := .tuple #[.agg #[.int .i64 (A), .int .i64 (B)], .bool true]) (by simp [results, Tryz.results223, go_sem, hc1]) rfl ⟨rfl, ?_⟩
  repeat (with_reducible first | exact Below.refl _ _ | refine b_s ?_ _ | refine b_a ?_ _ | refine Below.drew ?_ | refine below_drewN ?_ _ | refine b_t ?_ h1)
 ) : P := h
theorem tBeside_down (s : ByteArray) (a b d : Int) (m : Nat) (w : World) (hs : s.size ≤ 1000) (ea : a = Nib.att s m) (eb : b = Nib.fin s (Nib.att s m)) (ed : d = 1) (h : m + 1 < Nib.lns s) :
  qC 223 #[.string s, .agg #[.int .i64 (a), .int .i64 (b)], .int .i64 d] w (.tuple #[.agg #[.int .i64 (Nib.att s (m + 1)), .int .i64 (Nib.fin s (Nib.att s (m + 1)))], .bool true]) := by
 subst ea eb ed
 have h1 := Nib.fin_lt_of h
 have h2 := Nib.line_down h
 have HL : qH 195 #[.string s, .int .i64 (((Nib.fin s (Nib.att s m) : Nat) : Int) + 1)] (.agg #[.int .i64 (Nib.att s (m + 1)), .int .i64 (Nib.fin s (Nib.att s (m + 1)))]) := by
  intro ww
  have := tLine_any s (((Nib.fin s (Nib.att s m) : Nat) : Int) + 1) (Nib.fin s (Nib.att s m) + 1) ww hs qo qo
  rw [h2.1, h2.2] at this
  exact this
 clear h2
 generalize Nib.att s (m + 1) = A at *
 generalize Nib.fin s A = B at *
 generalize Nib.fin s (Nib.att s m) = F at *
 exact qt56
theorem tBeside_up (s : ByteArray) (a b d : Int) (m : Nat) (w : World) (hs : s.size ≤ 1000) (ea : a = Nib.att s m) (hm : m < Nib.lns s) (ed : d = -1) (h : 0 < m) :
  qC 223 #[.string s, .agg #[.int .i64 (a), .int .i64 (b)], .int .i64 d] w (.tuple #[.agg #[.int .i64 (Nib.att s (m - 1)), .int .i64 (Nib.fin s (Nib.att s (m - 1)))], .bool true]) := by
 subst ea ed
 have h1 := Nib.att_pos (s := s) h
 have h3 := (Nib.att_in hm).1
 have h2 := Nib.line_up hm h
 have HL : qH 195 #[.string s, .int .i64 (((Nib.att s m : Nat) : Int) - 1)] (.agg #[.int .i64 (Nib.att s (m - 1)), .int .i64 (Nib.fin s (Nib.att s (m - 1)))]) := by
  intro ww
  have := tLine_any s (((Nib.att s m : Nat) : Int) - 1) (Nib.att s m - 1) ww hs qo qo
  rw [h2.1, h2.2] at this
  exact this
 clear h2
 generalize Nib.att s (m - 1) = A at *
 generalize Nib.fin s A = B at *
 exact qt56
theorem qt71 {P : Prop} (h : P := by
  subst h3
  clear h1 h2
  go_enter Tryz.func223, Tryz.ntmps223
  go_wp2
  refine bodyPost_ret (v := .tuple #[.agg #[.int .i64 (0), .int .i64 (0)], .bool false]) (by simp [results, Tryz.results223, go_sem]) rfl ⟨rfl, ?_⟩
  repeat (with_reducible first | exact Below.refl _ _ | refine b_s ?_ _ | refine b_a ?_ _ | refine Below.drew ?_ | refine below_drewN ?_ _)
 ) : P := h
theorem tBeside_none (s : ByteArray) (a b d : Int) (w : World) (hs : s.size ≤ 1000) (ed : d = 1 ∨ d = -1) (h1 : d = 1 → b = s.size) (h2 : d = -1 → a = 0) :
  qC 223 #[.string s, .agg #[.int .i64 (a), .int .i64 (b)], .int .i64 d] w (.tuple #[.agg #[.int .i64 (0), .int .i64 (0)], .bool false]) := by
 rcases ed with rfl | rfl
 ·have h3 := h1 rfl
  exact qt71
 ·have h3 := h2 rfl
  exact qt71
theorem tFurther_down (s : ByteArray) (a b c d : Int) (m n : Nat) (w : World) (hs : s.size ≤ 1000) (hm : m < Nib.lns s) (ea : a = Nib.att s m) (eb : b = Nib.fin s (Nib.att s m)) (ec : c = n) (ed : d = 1) (hn : n ≤ 99) :
  qC 180 #[.string s, .agg #[.int .i64 (a), .int .i64 (b)], .int .i64 c, .int .i64 d] w (.tuple #[.agg #[.int .i64 (Nib.att s (min (m + n) (Nib.lns s - 1))), .int .i64 (Nib.fin s (Nib.att s (min (m + n) (Nib.lns s - 1))))], .int .i64 ((min n (Nib.lns s - 1 - m) : Nat) : Int)]) := by
 subst ea eb ec ed
 have HR : Hid (∀ j, j ≤ n → (j < n → ¬ m + j + 1 < Nib.lns s) → m + j < Nib.lns s → min (m + n) (Nib.lns s - 1) = m + j ∧ min n (Nib.lns s - 1 - m) = j) := by
  rw [Hid]; intro j h1 h2 h3
  by_cases h : j < n
  ·have := h2 h; omega
  ·omega
 generalize min (m + n) (Nib.lns s - 1) = R at *
 generalize min n (Nib.lns s - 1 - m) = G at *
 go_enter Tryz.func180, Tryz.ntmps180
 go_wp2
 go_loopw [10, 11, 12, 14] (fun _ _ _ i wr => ∃ j : Nat, j ≤ n ∧ m + j < Nib.lns s ∧ i = .int .i64 j ∧ Two wr w.heap.size (Nib.att s (m + j)) (Nib.fin s (Nib.att s (m + j))) ∧ Two wr (w.heap.size + 1) 0 0 ∧ Below w.heap.size w wr) (fun _ _ _ i _ => n - (intOf i).toNat)
 case atStart =>
  refine ⟨0, by omega, hm, rfl, ?_, ?_, ?_⟩
  ·exact Two.alloc (Two.new _ _ _ _) _
  ·have := Two.new (w.alloc (Obj.cells #[.int .i64 (Nib.att s m), .int .i64 (Nib.fin s (Nib.att s m))] 128)) 0 0 128
   simpa using this
  ·repeat (with_reducible first | exact Below.refl _ _ | refine b_s ?_ _ | refine b_a ?_ _ | refine Below.drew ?_ | refine below_drewN ?_ _)
 case round =>
  obtain ⟨j, hj, hmj, rfl, h1, h2, hB⟩ := hrel
  have ⟨c0, c1, cz, cl⟩ := h1
  have ⟨d0, d1, dz, dl⟩ := h2
  have hz := hB.size
  by_cases hlt : j < n
  ·by_cases hne : m + j + 1 < Nib.lns s
   ·go_wp2_with fail
    refine (tBeside_down s _ _ _ (m + j) _ hs rfl rfl rfl hne).mono ?_
    rintro e w3 ⟨rfl, h3⟩
    obtain ⟨hc3, hf3, hz3⟩ := qb h3
    try simp at hz3
    have p0 := (h1.below h3).c0
    have p1 := (h1.below h3).c1
    have pz := (h1.below h3).fz
    have pl := (h1.below h3).lt
    have q0 := (h2.below h3).c0
    have q1 := (h2.below h3).c1
    have qz := (h2.below h3).fz
    have ql := (h2.below h3).lt
    go_wp2
    go_round
    case rel =>
     refine ⟨j + 1, by omega, by omega, by go_num, ?_, ?_, ?_⟩
     ·rw [show m + (j + 1) = m + j + 1 by omega]
      refine Two.alloc (Two.set1 (Two.set0 (x := Nib.att s (m + j)) (y := Nib.fin s (Nib.att s (m + j))) ?_ _) _) _
      repeat (with_reducible first | exact h1 | refine t_o ?_ _ | refine Two.alloc ?_ _ | refine Two.drewN ?_ _ | refine Two.drew ?_ | refine Two.below ?_ h3)
     ·repeat (with_reducible first | exact h2 | refine t_o ?_ _ | refine Two.alloc ?_ _ | refine Two.drewN ?_ _ | refine Two.drew ?_ | refine Two.below ?_ h3)
     ·repeat (with_reducible first | exact Below.refl _ _ | refine b_s ?_ _ | refine b_a ?_ _ | refine Below.drew ?_ | refine below_drewN ?_ _ | refine b_t ?_ h3 | refine b_t ?_ hB)
    case measure => simp [intOf] <;> omega
   ·go_wp2_with fail
    refine (tBeside_none s _ _ _ _ hs (Or.inl rfl) (fun _ => by have := Nib.fin_last (s := s) (m := m + j) qo; omega) (fun h => by omega)).mono ?_
    rintro e w3 ⟨rfl, h3⟩
    obtain ⟨hc3, hf3, hz3⟩ := qb h3
    try simp at hz3
    have HK := HR.out j hj (fun _ => hne) hmj
    have p0 := (h1.below h3).c0
    have p1 := (h1.below h3).c1
    have pz := (h1.below h3).fz
    have pl := (h1.below h3).lt
    have q0 := (h2.below h3).c0
    have q1 := (h2.below h3).c1
    have qz := (h2.below h3).fz
    have ql := (h2.below h3).lt
    go_wp2
    refine bodyPost_ret (v := .tuple #[.agg #[.int .i64 (Nib.att s (m + j)), .int .i64 (Nib.fin s (Nib.att s (m + j)))], .int .i64 j]) (by simp [results, Tryz.results180, go_sem, p0, p1, q0, q1, pz, qz, pl, ql]) rfl ⟨by rw [HK.1, HK.2], ?_⟩
    repeat (with_reducible first | exact Below.refl _ _ | refine b_s ?_ _ | refine b_a ?_ _ | refine Below.drew ?_ | refine below_drewN ?_ _ | refine b_t ?_ h3 | refine b_t ?_ hB)
  ·have HK := HR.out j hj (fun h => absurd h hlt) hmj
   have ej : j = n := by omega
   subst ej
   go_wp2
   refine bodyPost_ret (v := .tuple #[.agg #[.int .i64 (Nib.att s (m + j)), .int .i64 (Nib.fin s (Nib.att s (m + j)))], .int .i64 j]) (by simp [results, Tryz.results180, go_sem, c0, c1, d0, d1, cz, dz]) rfl ⟨by rw [HK.1, HK.2], ?_⟩
   repeat (with_reducible first | exact Below.refl _ _ | refine b_s ?_ _ | refine b_a ?_ _ | refine Below.drew ?_ | refine below_drewN ?_ _ | refine b_t ?_ hB)
theorem tFurther_up (s : ByteArray) (a b c d : Int) (m n : Nat) (w : World) (hs : s.size ≤ 1000) (hm : m < Nib.lns s) (ea : a = Nib.att s m) (eb : b = Nib.fin s (Nib.att s m)) (ec : c = n) (ed : d = -1) (hn : n ≤ 99) :
  qC 180 #[.string s, .agg #[.int .i64 (a), .int .i64 (b)], .int .i64 c, .int .i64 d] w (.tuple #[.agg #[.int .i64 (Nib.att s (m - n)), .int .i64 (Nib.fin s (Nib.att s (m - n)))], .int .i64 ((min n m : Nat) : Int)]) := by
 subst ea eb ec ed
 have HR : Hid (∀ j, j ≤ n → (j < n → ¬ 0 < m - j) → j ≤ m → m - n = m - j ∧ min n m = j) := by
  rw [Hid]; intro j h1 h2 h3
  by_cases h : j < n
  ·have := h2 h; omega
  ·omega
 generalize m - n = R at *
 generalize min n m = G at *
 go_enter Tryz.func180, Tryz.ntmps180
 go_wp2
 go_loopw [10, 11, 12, 14] (fun _ _ _ i wr => ∃ j : Nat, j ≤ n ∧ j ≤ m ∧ i = .int .i64 j ∧ Two wr w.heap.size (Nib.att s (m - j)) (Nib.fin s (Nib.att s (m - j))) ∧ Two wr (w.heap.size + 1) 0 0 ∧ Below w.heap.size w wr) (fun _ _ _ i _ => n - (intOf i).toNat)
 case atStart =>
  refine ⟨0, by omega, by omega, rfl, ?_, ?_, ?_⟩
  ·exact Two.alloc (Two.new _ _ _ _) _
  ·have := Two.new (w.alloc (Obj.cells #[.int .i64 (Nib.att s m), .int .i64 (Nib.fin s (Nib.att s m))] 128)) 0 0 128
   simpa using this
  ·repeat (with_reducible first | exact Below.refl _ _ | refine b_s ?_ _ | refine b_a ?_ _ | refine Below.drew ?_ | refine below_drewN ?_ _)
 case round =>
  obtain ⟨j, hj, hmj, rfl, h1, h2, hB⟩ := hrel
  have ⟨c0, c1, cz, cl⟩ := h1
  have ⟨d0, d1, dz, dl⟩ := h2
  have hz := hB.size
  by_cases hlt : j < n
  ·by_cases hne : 0 < m - j
   ·go_wp2_with fail
    refine (tBeside_up s _ _ _ (m - j) _ hs rfl qo rfl hne).mono ?_
    rintro e w3 ⟨rfl, h3⟩
    obtain ⟨hc3, hf3, hz3⟩ := qb h3
    try simp at hz3
    have p0 := (h1.below h3).c0
    have p1 := (h1.below h3).c1
    have pz := (h1.below h3).fz
    have pl := (h1.below h3).lt
    have q0 := (h2.below h3).c0
    have q1 := (h2.below h3).c1
    have qz := (h2.below h3).fz
    have ql := (h2.below h3).lt
    go_wp2
    go_round
    case rel =>
     refine ⟨j + 1, by omega, by omega, by go_num, ?_, ?_, ?_⟩
     ·rw [show m - (j + 1) = m - j - 1 by omega]
      refine Two.alloc (Two.set1 (Two.set0 (x := Nib.att s (m - j)) (y := Nib.fin s (Nib.att s (m - j))) ?_ _) _) _
      repeat (with_reducible first | exact h1 | refine t_o ?_ _ | refine Two.alloc ?_ _ | refine Two.drewN ?_ _ | refine Two.drew ?_ | refine Two.below ?_ h3)
     ·repeat (with_reducible first | exact h2 | refine t_o ?_ _ | refine Two.alloc ?_ _ | refine Two.drewN ?_ _ | refine Two.drew ?_ | refine Two.below ?_ h3)
     ·repeat (with_reducible first | exact Below.refl _ _ | refine b_s ?_ _ | refine b_a ?_ _ | refine Below.drew ?_ | refine below_drewN ?_ _ | refine b_t ?_ h3 | refine b_t ?_ hB)
    case measure => simp [intOf] <;> omega
   ·go_wp2_with fail
    refine (tBeside_none s _ _ _ _ hs (Or.inr rfl) (fun h => by omega) (fun _ => by rw [show m - j = 0 from qo]; rfl)).mono ?_
    rintro e w3 ⟨rfl, h3⟩
    obtain ⟨hc3, hf3, hz3⟩ := qb h3
    try simp at hz3
    have HK := HR.out j hj (fun _ => hne) hmj
    have p0 := (h1.below h3).c0
    have p1 := (h1.below h3).c1
    have pz := (h1.below h3).fz
    have pl := (h1.below h3).lt
    have q0 := (h2.below h3).c0
    have q1 := (h2.below h3).c1
    have qz := (h2.below h3).fz
    have ql := (h2.below h3).lt
    go_wp2
    refine bodyPost_ret (v := .tuple #[.agg #[.int .i64 (Nib.att s (m - j)), .int .i64 (Nib.fin s (Nib.att s (m - j)))], .int .i64 j]) (by simp [results, Tryz.results180, go_sem, p0, p1, q0, q1, pz, qz, pl, ql]) rfl ⟨by rw [HK.1, HK.2], ?_⟩
    repeat (with_reducible first | exact Below.refl _ _ | refine b_s ?_ _ | refine b_a ?_ _ | refine Below.drew ?_ | refine below_drewN ?_ _ | refine b_t ?_ h3 | refine b_t ?_ hB)
  ·have HK := HR.out j hj (fun h => absurd h hlt) hmj
   have ej : j = n := by omega
   subst ej
   go_wp2
   refine bodyPost_ret (v := .tuple #[.agg #[.int .i64 (Nib.att s (m - j)), .int .i64 (Nib.fin s (Nib.att s (m - j)))], .int .i64 j]) (by simp [results, Tryz.results180, go_sem, c0, c1, d0, d1, cz, dz]) rfl ⟨by rw [HK.1, HK.2], ?_⟩
   repeat (with_reducible first | exact Below.refl _ _ | refine b_s ?_ _ | refine b_a ?_ _ | refine Below.drew ?_ | refine below_drewN ?_ _ | refine b_t ?_ hB)
end Go.Proofs.YtlendfhehhacpaaGreat
