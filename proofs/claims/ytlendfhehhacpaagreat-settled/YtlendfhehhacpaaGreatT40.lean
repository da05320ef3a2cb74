/- A part. -/
import Derived.Shelf.Abstract
import Derived.Test.YtlendfhehhacpaaGreatT38
set_option linter.unusedVariables false
set_option linter.unusedSimpArgs false
set_option maxRecDepth 100000
set_option maxHeartbeats 8000000
namespace Go.Proofs.YtlendfhehhacpaaGreat
open Go.RowKit Nib Tryz
def casS (F : UInt8 → UInt8) (s : ByteArray) (i j : Nat) : ByteArray := s.extract 0 i ++ ⟨((s.extract i j).data.toList.map F).toArray⟩ ++ s.extract j s.size
theorem casS_size {F : UInt8 → UInt8} {s : ByteArray} {i j : Nat} (h : i ≤ j) (hj : j ≤ s.size) : (casS F s i j).size = s.size := by
 unfold casS
 have h1 : (⟨((s.extract i j).data.toList.map F).toArray⟩ : ByteArray).size = j - i := by
  show ((s.extract i j).data.toList.map F).toArray.size = _
  have : (s.extract i j).size = j - i := by rw [ByteArray.size_extract]; omega
  rw [List.size_toArray, List.length_map, Array.length_toList]
  exact this
 rw [ByteArray.size_append, ByteArray.size_append, h1, ByteArray.size_extract, ByteArray.size_extract]
 omega
theorem qt23 {P : Prop} (h : P := by
  generalize s.extract i j = O at *
  clear HW hms hos
  go_enter func174, ntmps174
  have g0 : (w.alloc (.cells #[.int .i64 i, .int .i64 j, .bool l] 186)).cell? ⟨w.heap.size, 0, none⟩ = some (.int .i64 i) := by simp
  have g1 : (w.alloc (.cells #[.int .i64 i, .int .i64 j, .bool l] 186)).cell? ⟨w.heap.size, 1, none⟩ = some (.int .i64 j) := by simp
  have g2 : (w.alloc (.cells #[.int .i64 i, .int .i64 j, .bool l] 186)).cell? ⟨w.heap.size, 2, none⟩ = some (.bool l) := by simp
  go_wp2_with fail
  go_region_held3 (fun ww => ww.cell? ⟨w.heap.size, 0, none⟩ = some (.int .i64 i) ∧ ww.cell? ⟨w.heap.size, 1, none⟩ = some (.int .i64 j) ∧ ww.cell? ⟨w.heap.size, 2, none⟩ = some (.bool l)) (exact qK) (first | (go_at_call 87; refine Calls.mono (HO.out _) ?_; rintro r1 w1 ⟨rfl, h1⟩; have hz1 := h1.size; (try simp at hz1); (try have ⟨hl1_0, hk1_0⟩ := qL w.heap.size w1.heap.size)) | (go_at_call 193; refine Calls.mono (HE.out _) ?_; rintro r2 w2 ⟨rfl, h2⟩; have hz2 := h2.size; (try simp at hz2); (try have ⟨hl2_0, hk2_0⟩ := qL w.heap.size w2.heap.size)) | (go_at_call 192; refine Calls.mono (HW1.out _) ?_; rintro r3 w3 ⟨rfl, h3⟩; have hz3 := h3.size; (try simp at hz3); (try have ⟨hl3_0, hk3_0⟩ := qL w.heap.size w3.heap.size)) | (go_at_call 221; refine Calls.mono (HB.out _) ?_; rintro r4 w4 ⟨rfl, h4⟩; have hz4 := h4.size; (try simp at hz4); (try have ⟨hl4_0, hk4_0⟩ := qL w.heap.size w4.heap.size)))
  go_wp2
  exact qV (.tuple #[.string X, .int .i64 q]) (by simp [results, results174, go_sem]) rfl
 ) : P := h
theorem vDo_case (v : Int) (s : ByteArray) (i j : Nat) (p q : Int) (l : Bool) (w : World) (hs : s.size ≤ 1000) (h : i ≤ j) (hj : j ≤ s.size) (hv : v = 117 ∨ v = 85)
  (HB : qH 221 #[.string s, .agg #[.int .i64 i, .int .i64 j, .bool l], .int .i64 p] (.int .i64 q)) :
  qC 174 #[.int .u8 v, .string s, .agg #[.int .i64 i, .int .i64 j, .bool l], .int .i64 p] w (.tuple #[.string (casS (if v = 117 then smallU else greatU) s i j), .int .i64 q]) := by
 have HO : qH 87 #[.string s, .agg #[.int .i64 (i), .int .i64 (j)]] (.string (s.extract i j)) := fun ww => tOf_any s i j i j ww hs rfl rfl h hj
 have hos : (s.extract i j).size ≤ 1000 := by rw [ByteArray.size_extract]; omega
 have hms : ∀ F : UInt8 → UInt8, (⟨((s.extract i j).data.toList.map F).toArray⟩ : ByteArray).size ≤ 1000 := by
  intro F
  show ((s.extract i j).data.toList.map F).toArray.size ≤ 1000
  rw [List.size_toArray, List.length_map, Array.length_toList]
  exact hos
 have HW : ∀ F : UInt8 → UInt8, qH 192 #[.string s, .agg #[.int .i64 (i), .int .i64 (j)], .string ⟨((s.extract i j).data.toList.map F).toArray⟩] (.string (casS F s i j)) := fun F ww => tWith_any s _ i j i j ww hs (by have := hms F; omega) rfl rfl h hj
 rcases hv with hv | hv
 ·subst hv
  rw [if_pos rfl]
  have HE : qH 193 #[.string (s.extract i j), .func (.func 220) #[] #[]] (.string ⟨((s.extract i j).data.toList.map smallU).toArray⟩) := fun ww => tEach _ _ smallU ww hos (enters_of func220 qk rfl) (fun c w2 => tSmall c w2)
  have HW1 := HW smallU
  generalize casS smallU s i j = X at *
  generalize (⟨((s.extract i j).data.toList.map smallU).toArray⟩ : ByteArray) = A at *
  exact qt23
 ·subst hv
  rw [if_neg qd]
  have HE : qH 193 #[.string (s.extract i j), .func (.func 222) #[] #[]] (.string ⟨((s.extract i j).data.toList.map greatU).toArray⟩) := fun ww => tEach _ _ greatU ww hos (enters_of func222 qk rfl) (fun c w2 => tGreat c w2)
  have HW1 := HW greatU
  generalize casS greatU s i j = X at *
  generalize (⟨((s.extract i j).data.toList.map greatU).toArray⟩ : ByteArray) = A at *
  exact qt23
def qts (s : ByteArray) (key : Int) (p : Nat) : Nat → Nat → Nat → Bool → Option (Nat × Nat)
 | 0, _, _, _ => none
 | n + 1, k, f, o => if bt s k = key then (if o = true ∧ p ≤ k then some (f, k + 1) else qts s key p n (k + 1) k (!o)) else qts s key p n (k + 1) f o
theorem qts_le {s : ByteArray} {key : Int} {p : Nat} : ∀ (n k f : Nat) (o : Bool) (X : Nat × Nat), (o = true → f < k) → qts s key p n k f o = some X → X.1 + 1 < X.2 ∧ X.2 ≤ k + n := by
 intro n
 induction n with
 | zero => intro k f o X _ h; simp [qts] at h
 | succ n ih =>
  intro k f o X ho h
  simp only [qts] at h
  split at h
  ·split at h
   ·rename_i hc
    have := ho hc.1
    injection h with h
    subst h
    constructor <;> simp <;> omega
   ·have := ih (k + 1) k (!o) X (fun _ => by omega) h
    omega
  ·have := ih (k + 1) f o X (fun h => by have := ho h; omega) h
   omega
theorem oQuotes (s : ByteArray) (p : Nat) (key : Int) (wh : Bool) (hs : s.size ≤ 1000) (hp : p ≤ s.size) : GivesO 216 #[.agg #[.string s, .int .i64 p, .bool wh], .int .u8 key] s := by
 have HL : qH 195 #[.string s, .int .i64 p] (.agg #[.int .i64 (beg s p), .int .i64 (fin s p)]) := fun ww => tLine_any s p p ww hs rfl hp
 have h1 := beg_le s p
 have h2 := fin_ge s p
 have h3 := fin_le hp
 have hle := fun x => qts_le (s := s) (key := key) (p := p) (fin s p - beg s p) (beg s p) 0 false x (fun h => by cases h)
 obtain ⟨X, hX⟩ : ∃ X, qts s key p (fin s p - beg s p) (beg s p) 0 false = X := ⟨_, rfl⟩
 rw [hX] at hle
 have HX : Hid (qts s key p (fin s p - beg s p) (beg s p) 0 false = X) := hX
 clear hX
 obtain ⟨a, b, is, hab, hbs, hres⟩ : ∃ (a b : Nat) (is : Bool), a ≤ b ∧ b ≤ s.size ∧ ((X = none ∧ a = 0 ∧ b = 0 ∧ is = false) ∨ (∃ f k : Nat, X = some (f, k) ∧ is = true ∧ f + 2 ≤ k ∧ k ≤ s.size ∧ (if wh then (f : Int) else (f : Int) + 1) = (a : Int) ∧ (if wh then (k : Int) else (k : Int) - 1) = (b : Int))) := by
  cases X with
  | none => exact ⟨0, 0, false, Nat.le_refl _, Nat.zero_le _, Or.inl ⟨rfl, rfl, rfl, rfl⟩⟩
  | some x =>
   obtain ⟨f, k⟩ := x
   have h := hle (f, k) rfl
   simp only at h
   cases wh
   ·exact ⟨f + 1, k - 1, true, by omega, by omega, Or.inr ⟨f, k, rfl, rfl, by omega, by omega, by simp, by simp; omega⟩⟩
   ·exact ⟨f, k, true, by omega, by omega, Or.inr ⟨f, k, rfl, rfl, by omega, by omega, by simp, by simp⟩⟩
 have HP : Hid (∀ f k : Nat, f ≤ s.size → k ≤ s.size → ∀ ww, qC 261 #[.agg #[.string s, .int .i64 p, .bool wh], .agg #[.int .i64 (f), .int .i64 (k)]] ww (.agg #[.int .i64 (if wh then (f : Int) else (f : Int) + 1), .int .i64 (if wh then (k : Int) else (k : Int) - 1), .bool false])) := fun f k hf hk ww => oPair s p f k wh ww qo qo
 refine ⟨a, b, false, is, hab, hbs, fun w => ?_⟩
 clear hle
 generalize beg s p = LB at *
 generalize fin s p = LE at *
 go_enter func216, ntmps216
 have G : Tri ((w.alloc (.cells #[.string s, .int .i64 p, .bool wh] 213)).alloc (.cells #[.int .i64 0, .int .i64 0, .bool false] 186)) w.heap.size s p wh := Tri.alloc (Tri.new _ _ _ _ _) _
 have Q : Tre ((w.alloc (.cells #[.string s, .int .i64 p, .bool wh] 213)).alloc (.cells #[.int .i64 0, .int .i64 0, .bool false] 186)) (w.heap.size + 1) 0 0 false := by have := Tre.new (w.alloc (.cells #[.string s, .int .i64 p, .bool wh] 213)) 0 0 false 186; simpa using this
 go_wp2_with fail
 refine (HL.out _).mono ?_
 rintro r1 w1 ⟨rfl, h1⟩
 obtain ⟨hc1, hf1, hz1⟩ := qb h1
 (try simp at hz1)
 have G1 : Tri w1 (w.heap.size) (s) (p) (wh) := qTi
 have ⟨G1_0, G1_1, G1_2, G1_z, G1_l⟩ := G1
 have Q1 : Tre w1 (w.heap.size + 1) (0) (0) (false) := qTe
 have ⟨Q1_0, Q1_1, Q1_2, Q1_z, Q1_l⟩ := Q1
 clear hc1 hf1
 go_wp2
 have T : Two (w1.alloc (.cells #[.int .i64 LB, .int .i64 LE] 128)) w1.heap.size LB LE := Two.new _ _ _ _
 have G2 : Tri (w1.alloc (.cells #[.int .i64 LB, .int .i64 LE] 128)) w.heap.size s p wh := G1.alloc _
 have Q2 : Tre (w1.alloc (.cells #[.int .i64 LB, .int .i64 LE] 128)) (w.heap.size + 1) 0 0 false := Q1.alloc _
 have U : Below w.heap.size w (w1.alloc (.cells #[.int .i64 LB, .int .i64 LE] 128)) := by
  repeat exact qB
 clear G Q G1 Q1 G1_0 G1_1 G1_2 G1_z G1_l Q1_0 Q1_1 Q1_2 Q1_z Q1_l
 generalize (w1.alloc (.cells #[.int .i64 LB, .int .i64 LE] 128)) = W at *
 have g0 := G2.c0; have g1 := G2.c1; have g2 := G2.c2; have gl := G2.lt
 have t0 := T.c0; have t1 := T.c1; have tl := T.lt
 have ⟨q0, q1, q2, qz, ql⟩ := Q2
 go_loopw [7, 8, 9] (fun fv ov pv wr => ∃ (k f : Nat) (o : Bool), LB ≤ k ∧ k ≤ LE ∧ f ≤ k ∧ fv = .int .i64 f ∧ ov = .bool o ∧ pv = .int .i64 k ∧ Hid (qts s key p (LE - k) k f o = X) ∧ wr = W) (fun _ _ pv _ => LE - (intOf pv).toNat)
 case atStart => exact ⟨LB, 0, false, by omega, by omega, by omega, rfl, rfl, rfl, HX, rfl⟩
 case round =>
  clear HX
  obtain ⟨k, f, o, hk1, hk2, hf, rfl, rfl, rfl, HX, rfl⟩ := hrel
  have hwk : IntKind.i64.wrap ((k : Int) + 1) = (k : Int) + 1 := by rw [IntKind.wrap_i64]; omega
  by_cases hlt : k < LE
  ·have i1 : ((k : Nat) : Int) < ((LE : Nat) : Int) := by omega
   have hks : k < s.size := by omega
   have hks2 : ((k : Nat) : Int) < ((s.size : Nat) : Int) := by omega
   obtain ⟨n, hn⟩ : ∃ n, LE - k = n + 1 := ⟨LE - k - 1, by omega⟩
   have hn2 : LE - (k + 1) = n := by omega
   have hstep := HX.out
   rw [hn] at hstep
   simp only [qts] at hstep
   by_cases hkey : bt s k = key
   ·rw [if_pos hkey] at hstep
    have hcc : (((s[k]'hks).toNat : Int) == key) = true := by rw [← bt_in hks]; simp [hkey]
    have hcc2 : (((s[k]'hks).toNat : Int) != key) = false := by rw [← bt_in hks]; simp [hkey]
    have hcc3 : ((s[k]'hks).toNat : Int) = key := by rw [← bt_in hks]; exact hkey
    cases o with
    | true =>
     by_cases hpk : p ≤ k
     ·rw [if_pos ⟨rfl, hpk⟩] at hstep
      have hres2 : ∃ f' k' : Nat, X = some (f', k') ∧ is = true ∧ f' + 2 ≤ k' ∧ k' ≤ s.size ∧ (if wh then (f' : Int) else (f' : Int) + 1) = (a : Int) ∧ (if wh then (k' : Int) else (k' : Int) - 1) = (b : Int) := by
       rcases hres with ⟨h, _⟩ | h
       ·rw [← hstep] at h; cases h
       ·exact h
      obtain ⟨f', k', hx, his, _, _, ha, hb⟩ := hres2
      rw [← hstep] at hx
      injection hx with hx
      injection hx with hx1 hx2
      subst hx1 hx2 his
      have HPk := fun ww => HP.out f (k + 1) qo qo ww
      rw [ha, hb, show ((k + 1 : Nat) : Int) = (k : Int) + 1 by omega] at HPk
      have HPk : qH 261 #[.agg #[.string s, .int .i64 p, .bool wh], .agg #[.int .i64 (f), .int .i64 ((k : Int) + 1)]] (.agg #[.int .i64 a, .int .i64 b, .bool false]) := HPk
      have ipk : ((p : Nat) : Int) ≤ ((k : Nat) : Int) := by omega
      clear ha hb hstep HX hres HP
      go_wp2_with fail
      refine (HPk.out _).mono ?_
      rintro r5 w5 ⟨rfl, h5⟩
      obtain ⟨hc5, hf5, hz5⟩ := qb h5
      (try simp at hz5)
      have Q25 : Tre w5 (w.heap.size + 1) (0) (0) (false) := qTe
      have ⟨Q25_0, Q25_1, Q25_2, Q25_z, Q25_l⟩ := Q25
      clear hc5 hf5
      go_wp2
      (try rw [Exit.noGoto_ret])
      exact qV (.tuple #[.agg #[.int .i64 a, .int .i64 b, .bool false], .bool true]) (by simp [results, results216, go_sem, Q25_0, Q25_1, Q25_2, Q25_z, Q25_l]) rfl
     ·rw [if_neg (fun h => hpk h.2)] at hstep
      have ipk : ¬ ((p : Nat) : Int) ≤ ((k : Nat) : Int) := by omega
      have HX2 : Hid (qts s key p (LE - (k + 1)) (k + 1) k false = X) := by rw [Hid, hn2]; exact hstep
      clear hstep HX hres HP
      go_wp2
      go_round
      case rel => exact ⟨k + 1, k, false, by omega, by omega, by omega, rfl, rfl, by go_num, HX2, by first | trivial | rfl⟩
      case measure => simp [intOf] <;> omega
    | false =>
     rw [if_neg (fun h => by cases h.1)] at hstep
     have HX2 : Hid (qts s key p (LE - (k + 1)) (k + 1) k true = X) := by rw [Hid, hn2]; exact hstep
     clear hstep HX hres HP
     go_wp2
     go_round
     case rel => exact ⟨k + 1, k, true, by omega, by omega, by omega, rfl, rfl, by go_num, HX2, by first | trivial | rfl⟩
     case measure => simp [intOf] <;> omega
   ·rw [if_neg hkey] at hstep
    have hcc : (((s[k]'hks).toNat : Int) == key) = false := by rw [← bt_in hks]; simp [hkey]
    have hcc2 : (((s[k]'hks).toNat : Int) != key) = true := by rw [← bt_in hks]; simp [hkey]
    have HX2 : Hid (qts s key p (LE - (k + 1)) (k + 1) f o = X) := by rw [Hid, hn2]; exact hstep
    clear hstep HX hres HP
    go_wp2
    go_round
    case rel => exact ⟨k + 1, f, o, by omega, by omega, by omega, rfl, rfl, by go_num, HX2, by first | trivial | rfl⟩
    case measure => simp [intOf] <;> omega
  ·have hns : ¬ ((k : Nat) : Int) < ((LE : Nat) : Int) := by omega
   have hX0 : X = none := by
    have := HX.out
    rw [show LE - k = 0 by omega] at this
    simp only [qts] at this
    exact this.symm
   have hr2 : a = 0 ∧ b = 0 ∧ is = false := by
    rcases hres with ⟨_, h1, h2, h3⟩ | ⟨f', k', h, _⟩
    ·exact ⟨h1, h2, h3⟩
    ·rw [hX0] at h; cases h
   obtain ⟨ha, hb, his⟩ := hr2
   subst ha hb his
   clear HX hres HP
   go_wp2
   exact qV (.tuple #[.agg #[.int .i64 0, .int .i64 0, .bool false], .bool false]) (by simp [results, results216, go_sem, q0, q1, q2, qz, ql]) rfl
structure PaAt (w W : World) (k : Nat) (s : ByteArray) (p : Int) (wh : Bool) (a b : Int) : Prop where
 g : Tri W w.heap.size s p wh
 q : Tre W (w.heap.size + 1) 0 0 false
 t : Two W k a b
 up : Below w.heap.size w W
 lk : w.heap.size + 1 < k
theorem qt35 {P : Prop} (h : P := by
  have t2 : Two w2 w1.heap.size 0 0 := ⟨nv1_0, nv1_1, nz1, nl1⟩
  refine ⟨Tri.other (Tri.other (((G.drew.below h1).alloc _).below h2) qs _) qs _, Tre.other (Tre.other (((Q.drew.below h1).alloc _).below h2) qs _) qs _, Two.set1 (Two.set0 t2 _) _, ?_, by omega⟩
  have zw := UW0.size
  repeat exact qB
 ) : P := h
theorem qt36 {P : Prop} (h : P := by
  have t2 : Two w2 W0.heap.size 0 0 := ⟨nv0_0, nv0_1, nz0, nl0⟩
  refine ⟨Tri.other (Tri.other (((G.alloc _).drew.below h1).below h2) qs _) qs _, Tre.other (Tre.other (((Q.alloc _).drew.below h1).below h2) qs _) qs _, Two.set1 (Two.set0 t2 _) _, ?_, by omega⟩
  have zw := UW0.size
  repeat exact qB
 ) : P := h
theorem qt58 {P : Prop} (h : P := by
  refine ⟨Tri.alloc ((G.drew.below h1).below h2) _, Tre.alloc ((Q.drew.below h1).below h2) _, Two.new _ _ _ _, ?_, by omega⟩
  have zw := UW0.size
  repeat exact qB
 ) : P := h
theorem oParagraph (s : ByteArray) (p : Nat) (wh : Bool) (hs : s.size ≤ 1000) (hp : p ≤ s.size) : GivesO 217 #[.agg #[.string s, .int .i64 p, .bool wh]] s := by
 have hm := lin_lt hp
 have HL : qH 195 #[.string s, .int .i64 p] (.agg #[.int .i64 (att s (lin s p)), .int .i64 (fin s (att s (lin s p)))]) := by
  intro ww
  have := tLine_any s p p ww hs rfl hp
  rw [fin_eq hp, beg_eq hp] at this
  exact this
 obtain ⟨x, y, hx, hy, hyl, HA⟩ := oAlike s (lin s p) hs hm
 have HA : qH 262 #[.string s, .agg #[.int .i64 (att s (lin s p)), .int .i64 (fin s (att s (lin s p)))]] (.agg #[.int .i64 (att s x), .int .i64 (fin s (att s y))]) := HA
 have hxl : x < lns s := by omega
 have a1 := (att_in hxl).1
 have a2 := (att_in hyl).1
 have a3 := fin_le a2
 have a4 := fin_ge s (att s y)
 have a5 := att_monoO s x (y - x)
 rw [show x + (y - x) = y by omega] at a5
 generalize att s (lin s p) = A0 at *
 generalize fin s A0 = B0 at *
 have hix0 : ∀ ww : World, (Instr.index 127 (.agg #[.int .i64 1, .int .i64 (-1)]) (.int .i64 0)).run Tryz.prog ww = .ok (.int .i64 1) ww := fun _ => by kernel_rfl
 have hix1 : ∀ ww : World, (Instr.index 127 (.agg #[.int .i64 1, .int .i64 (-1)]) (.int .i64 1)).run Tryz.prog ww = .ok (.int .i64 (-1)) ww := fun _ => by kernel_rfl
 obtain ⟨D1, D2, hD, HBd⟩ := tBes_dn s (att s x) y hs hyl
 obtain ⟨E1, E2, hE, HBu⟩ := tBes_up s (fin s (att s y)) x hs hxl
 have HBd : qH 223 #[.string s, .agg #[.int .i64 (att s x), .int .i64 (fin s (att s y))], .int .i64 1] (.tuple #[.agg #[.int .i64 (D1), .int .i64 (D2)], .bool (decide (y + 1 < lns s))]) := HBd
 have HBu : qH 223 #[.string s, .agg #[.int .i64 (att s x), .int .i64 (fin s (att s y))], .int .i64 (-1)] (.tuple #[.agg #[.int .i64 (E1), .int .i64 (E2)], .bool (decide (0 < x))]) := HBu
 cases wh with
 | false =>
  refine ⟨att s x, fin s (att s y), true, true, by omega, by omega, fun w => ?_⟩
  generalize att s x = AX at *
  generalize fin s (att s y) = FY at *
  clear HBd HBu hD hE
  go_enter func217, ntmps217
  go_wp2_with fail
  have G : Tri ((w.alloc (.cells #[.string s, .int .i64 p, .bool false] 213)).alloc (.cells #[.int .i64 0, .int .i64 0, .bool false] 186)) w.heap.size s p false := Tri.alloc (Tri.new _ _ _ _ _) _
  have Q : Tre ((w.alloc (.cells #[.string s, .int .i64 p, .bool false] 213)).alloc (.cells #[.int .i64 0, .int .i64 0, .bool false] 186)) (w.heap.size + 1) 0 0 false := by have := Tre.new (w.alloc (.cells #[.string s, .int .i64 p, .bool false] 213)) 0 0 false 186; simpa using this
  have hW0 : w.heap.size + 1 < ((w.alloc (.cells #[.string s, .int .i64 p, .bool false] 213)).alloc (.cells #[.int .i64 0, .int .i64 0, .bool false] 186)).heap.size := by simp
  have UW0 : Below w.heap.size w ((w.alloc (.cells #[.string s, .int .i64 p, .bool false] 213)).alloc (.cells #[.int .i64 0, .int .i64 0, .bool false] 186)) := by
   repeat exact qB
  generalize ((w.alloc (.cells #[.string s, .int .i64 p, .bool false] 213)).alloc (.cells #[.int .i64 0, .int .i64 0, .bool false] 186)) = W0 at *
  have gg0 := G.c0; have gg1 := G.c1
  go_wp2_with fail
  go_region_held3 (fun ww => ww.cell? ⟨w.heap.size, 0, none⟩ = some (.string s) ∧ ww.cell? ⟨w.heap.size, 1, none⟩ = some (.int .i64 p)) (exact qK) (first | (go_at_call 195; with_reducible refine Calls.mono (HL.out (W0.alloc (.cells #[.int .i64 0, .int .i64 0] 128)).drew) ?_; rintro r1 w1 ⟨rfl, h1⟩; have hz1 := h1.size; (try simp at hz1); (try have ⟨hl1_0, hk1_0⟩ := qL w.heap.size w1.heap.size); have nv0_0 : w1.cell? ⟨W0.heap.size, 0, none⟩ = some (.int .i64 0) := ((bcell h1).1 _ _ qO).trans qi; have nv0_1 : w1.cell? ⟨W0.heap.size, 1, none⟩ = some (.int .i64 0) := ((bcell h1).1 _ _ qO).trans qi; have nz0 : ∀ o, w1.frozen? ⟨W0.heap.size, o, none⟩ = false := fun o => ((bcell h1).2 _ o qO).trans qi; have nl0 : W0.heap.size < w1.heap.size := qo) | (go_at_call 195; with_reducible refine Calls.mono (HL.out W0.drew) ?_; rintro r1 w1 ⟨rfl, h1⟩; have hz1 := h1.size; (try simp at hz1); (try have ⟨hl1_0, hk1_0⟩ := qL w.heap.size w1.heap.size)) | (go_at_call 262; with_reducible refine Calls.mono (HA.out (w1.alloc (.cells #[.int .i64 0, .int .i64 0] 128))) ?_; rintro r2 w2 ⟨rfl, h2⟩; have hz2 := h2.size; (try simp at hz2); (try have ⟨hl2_0, hk2_0⟩ := qL w.heap.size w2.heap.size); (try have nv0_0 := memLater h2 nv0_0); (try have nv0_1 := memLater h2 nv0_1); (try have nz0 : ∀ o, w2.frozen? ⟨W0.heap.size, o, none⟩ = false := fun o => ((bcell h2).2 _ o qO).trans (nz0 o)); (try have nl0 : W0.heap.size < w2.heap.size := qo); have nv1_0 : w2.cell? ⟨w1.heap.size, 0, none⟩ = some (.int .i64 0) := ((bcell h2).1 _ _ qO).trans qi; have nv1_1 : w2.cell? ⟨w1.heap.size, 1, none⟩ = some (.int .i64 0) := ((bcell h2).1 _ _ qO).trans qi; have nz1 : ∀ o, w2.frozen? ⟨w1.heap.size, o, none⟩ = false := fun o => ((bcell h2).2 _ o qO).trans qi; have nl1 : w1.heap.size < w2.heap.size := qo) | (go_at_call 262; with_reducible refine Calls.mono (HA.out w1) ?_; rintro r2 w2 ⟨rfl, h2⟩; have hz2 := h2.size; (try simp at hz2); (try have ⟨hl2_0, hk2_0⟩ := qL w.heap.size w2.heap.size); (try have nv0_0 := memLater h2 nv0_0); (try have nv0_1 := memLater h2 nv0_1); (try have nz0 : ∀ o, w2.frozen? ⟨W0.heap.size, o, none⟩ = false := fun o => ((bcell h2).2 _ o qO).trans (nz0 o)); (try have nl0 : W0.heap.size < w2.heap.size := qo)))
  have E : PaAt w (w2.alloc (.cells #[.int .i64 AX, .int .i64 FY] 128)) w2.heap.size s p false AX FY := by
   exact qt58
  generalize (w2.alloc (.cells #[.int .i64 AX, .int .i64 FY] 128)) = W at *
  generalize w2.heap.size = k at *
  rotate_left
  have E : PaAt w ((w2.setCell ⟨w1.heap.size, 0, none⟩ (.int .i64 AX)).setCell ⟨w1.heap.size, 1, none⟩ (.int .i64 FY)) w1.heap.size s p false AX FY := by
   exact qt35
  generalize ((w2.setCell ⟨w1.heap.size, 0, none⟩ (.int .i64 AX)).setCell ⟨w1.heap.size, 1, none⟩ (.int .i64 FY)) = W at *
  generalize w1.heap.size = k at *
  rotate_left
  have E : PaAt w ((w2.setCell ⟨W0.heap.size, 0, none⟩ (.int .i64 AX)).setCell ⟨W0.heap.size, 1, none⟩ (.int .i64 FY)) W0.heap.size s p false AX FY := by
   exact qt36
  generalize ((w2.setCell ⟨W0.heap.size, 0, none⟩ (.int .i64 AX)).setCell ⟨W0.heap.size, 1, none⟩ (.int .i64 FY)) = W at *
  generalize W0.heap.size = k at *
  rotate_left
  all_goals
   obtain ⟨G, Q, T, up, lk⟩ := E
   have zu := up.size
   have g0 := G.c0; have g1 := G.c1; have g2 := G.c2
   have t0 := T.c0; have t1 := T.c1; have tl := T.lt
   have ⟨q0, q1, q2, qz, ql⟩ := Q
   go_wp2
   exact qV (.tuple #[.agg #[.int .i64 AX, .int .i64 FY, .bool true], .bool true]) (by simp [results, results217, go_sem, q0, q1, q2, qz, ql]) rfl
 | true =>
  by_cases hc : y + 1 < lns s
  ·obtain ⟨eD1, eD2⟩ := hD hc
   rw [decide_eq_true hc] at HBd
   obtain ⟨x2, y2, hx2, hy2, hyl2, HA2⟩ := oAlike s (y + 1) hs hc
   rw [← eD1, ← eD2] at HA2
   have HA2 : qH 262 #[.string s, .agg #[.int .i64 (D1), .int .i64 (D2)]] (.agg #[.int .i64 (att s x2), .int .i64 (fin s (att s y2))]) := HA2
   have HJ : qH 196 #[.agg #[.int .i64 (att s x), .int .i64 (fin s (att s y))], .agg #[.int .i64 (att s x2), .int .i64 (fin s (att s y2))]] (.agg #[.int .i64 (((min (att s x) (att s x2) : Nat) : Int)), .int .i64 (((max (fin s (att s y)) (fin s (att s y2)) : Nat) : Int))]) := fun ww => tJoin_nat _ _ _ _ ww
   have b1 := (att_in hyl2).1
   have b2 := fin_le b1
   refine ⟨min (att s x) (att s x2), max (fin s (att s y)) (fin s (att s y2)), true, true, by omega, by omega, fun w => ?_⟩
   generalize ((min (att s x) (att s x2) : Nat) : Int) = U at *
   generalize ((max (fin s (att s y)) (fin s (att s y2)) : Nat) : Int) = V at *
   generalize att s x2 = A9 at *
   generalize fin s (att s y2) = B9 at *
   clear a5 b1 b2 eD1 eD2 hD hE HBu
   generalize att s x = AX at *
   generalize fin s (att s y) = FY at *
   go_enter func217, ntmps217
   go_wp2_with fail
   have G : Tri ((w.alloc (.cells #[.string s, .int .i64 p, .bool true] 213)).alloc (.cells #[.int .i64 0, .int .i64 0, .bool false] 186)) w.heap.size s p true := Tri.alloc (Tri.new _ _ _ _ _) _
   have Q : Tre ((w.alloc (.cells #[.string s, .int .i64 p, .bool true] 213)).alloc (.cells #[.int .i64 0, .int .i64 0, .bool false] 186)) (w.heap.size + 1) 0 0 false := by have := Tre.new (w.alloc (.cells #[.string s, .int .i64 p, .bool true] 213)) 0 0 false 186; simpa using this
   have hW0 : w.heap.size + 1 < ((w.alloc (.cells #[.string s, .int .i64 p, .bool true] 213)).alloc (.cells #[.int .i64 0, .int .i64 0, .bool false] 186)).heap.size := by simp
   have UW0 : Below w.heap.size w ((w.alloc (.cells #[.string s, .int .i64 p, .bool true] 213)).alloc (.cells #[.int .i64 0, .int .i64 0, .bool false] 186)) := by
    repeat exact qB
   generalize ((w.alloc (.cells #[.string s, .int .i64 p, .bool true] 213)).alloc (.cells #[.int .i64 0, .int .i64 0, .bool false] 186)) = W0 at *
   have gg0 := G.c0; have gg1 := G.c1
   go_wp2_with fail
   go_region_held3 (fun ww => ww.cell? ⟨w.heap.size, 0, none⟩ = some (.string s) ∧ ww.cell? ⟨w.heap.size, 1, none⟩ = some (.int .i64 p)) (exact qK) (first | (go_at_call 195; with_reducible refine Calls.mono (HL.out (W0.alloc (.cells #[.int .i64 0, .int .i64 0] 128)).drew) ?_; rintro r1 w1 ⟨rfl, h1⟩; have hz1 := h1.size; (try simp at hz1); (try have ⟨hl1_0, hk1_0⟩ := qL w.heap.size w1.heap.size); have nv0_0 : w1.cell? ⟨W0.heap.size, 0, none⟩ = some (.int .i64 0) := ((bcell h1).1 _ _ qO).trans qi; have nv0_1 : w1.cell? ⟨W0.heap.size, 1, none⟩ = some (.int .i64 0) := ((bcell h1).1 _ _ qO).trans qi; have nz0 : ∀ o, w1.frozen? ⟨W0.heap.size, o, none⟩ = false := fun o => ((bcell h1).2 _ o qO).trans qi; have nl0 : W0.heap.size < w1.heap.size := qo) | (go_at_call 195; with_reducible refine Calls.mono (HL.out W0.drew) ?_; rintro r1 w1 ⟨rfl, h1⟩; have hz1 := h1.size; (try simp at hz1); (try have ⟨hl1_0, hk1_0⟩ := qL w.heap.size w1.heap.size)) | (go_at_call 262; with_reducible refine Calls.mono (HA.out (w1.alloc (.cells #[.int .i64 0, .int .i64 0] 128))) ?_; rintro r2 w2 ⟨rfl, h2⟩; have hz2 := h2.size; (try simp at hz2); (try have ⟨hl2_0, hk2_0⟩ := qL w.heap.size w2.heap.size); (try have nv0_0 := memLater h2 nv0_0); (try have nv0_1 := memLater h2 nv0_1); (try have nz0 : ∀ o, w2.frozen? ⟨W0.heap.size, o, none⟩ = false := fun o => ((bcell h2).2 _ o qO).trans (nz0 o)); (try have nl0 : W0.heap.size < w2.heap.size := qo); have nv1_0 : w2.cell? ⟨w1.heap.size, 0, none⟩ = some (.int .i64 0) := ((bcell h2).1 _ _ qO).trans qi; have nv1_1 : w2.cell? ⟨w1.heap.size, 1, none⟩ = some (.int .i64 0) := ((bcell h2).1 _ _ qO).trans qi; have nz1 : ∀ o, w2.frozen? ⟨w1.heap.size, o, none⟩ = false := fun o => ((bcell h2).2 _ o qO).trans qi; have nl1 : w1.heap.size < w2.heap.size := qo) | (go_at_call 262; with_reducible refine Calls.mono (HA.out w1) ?_; rintro r2 w2 ⟨rfl, h2⟩; have hz2 := h2.size; (try simp at hz2); (try have ⟨hl2_0, hk2_0⟩ := qL w.heap.size w2.heap.size); (try have nv0_0 := memLater h2 nv0_0); (try have nv0_1 := memLater h2 nv0_1); (try have nz0 : ∀ o, w2.frozen? ⟨W0.heap.size, o, none⟩ = false := fun o => ((bcell h2).2 _ o qO).trans (nz0 o)); (try have nl0 : W0.heap.size < w2.heap.size := qo)))
   have E : PaAt w (w2.alloc (.cells #[.int .i64 AX, .int .i64 FY] 128)) w2.heap.size s p true AX FY := by
    exact qt58
   generalize (w2.alloc (.cells #[.int .i64 AX, .int .i64 FY] 128)) = W at *
   generalize w2.heap.size = k at *
   rotate_left
   have E : PaAt w ((w2.setCell ⟨w1.heap.size, 0, none⟩ (.int .i64 AX)).setCell ⟨w1.heap.size, 1, none⟩ (.int .i64 FY)) w1.heap.size s p true AX FY := by
    exact qt35
   generalize ((w2.setCell ⟨w1.heap.size, 0, none⟩ (.int .i64 AX)).setCell ⟨w1.heap.size, 1, none⟩ (.int .i64 FY)) = W at *
   generalize w1.heap.size = k at *
   rotate_left
   have E : PaAt w ((w2.setCell ⟨W0.heap.size, 0, none⟩ (.int .i64 AX)).setCell ⟨W0.heap.size, 1, none⟩ (.int .i64 FY)) W0.heap.size s p true AX FY := by
    exact qt36
   generalize ((w2.setCell ⟨W0.heap.size, 0, none⟩ (.int .i64 AX)).setCell ⟨W0.heap.size, 1, none⟩ (.int .i64 FY)) = W at *
   generalize W0.heap.size = k at *
   rotate_left
   all_goals
    obtain ⟨G, Q, T, up, lk⟩ := E
    have zu := up.size
    have g0 := G.c0; have g1 := G.c1; have g2 := G.c2
    have t0 := T.c0; have t1 := T.c1; have tl := T.lt
    have ⟨q0, q1, q2, qz, ql⟩ := Q
    go_wp2_with fail
    refine wp_loop_rounds 3 ?_
    rw [rounds_succ]
    go_wp2_with fail
    refine (HBd.out _).mono ?_
    rintro r3 w3 ⟨rfl, h3⟩
    obtain ⟨hc3, hf3, hz3⟩ := qb h3
    (try simp at hz3)
    have G3 : Tri w3 (w.heap.size) (s) (p) (true) := qTi
    have ⟨G3_0, G3_1, G3_2, G3_z, G3_l⟩ := G3
    have Q3 : Tre w3 (w.heap.size + 1) (0) (0) (false) := qTe
    have ⟨Q3_0, Q3_1, Q3_2, Q3_z, Q3_l⟩ := Q3
    have T3 : Two w3 (k) (AX) (FY) := qTw
    have ⟨T3_0, T3_1, T3_z, T3_l⟩ := T3
    clear hc3 hf3
    have N9 : Two (w3.alloc (.cells #[.int .i64 D1, .int .i64 D2] 128)) w3.heap.size D1 D2 := Two.new _ _ _ _
    have G9 := G3.alloc (.cells #[.int .i64 D1, .int .i64 D2] 128)
    have Q9 := Q3.alloc (.cells #[.int .i64 D1, .int .i64 D2] 128)
    have T9 := T3.alloc (.cells #[.int .i64 D1, .int .i64 D2] 128)
    have n0 := N9.c0; have n1 := N9.c1; have s0 := T9.c0; have s1 := T9.c1; have v0 := G9.c0
    have c0 := Q9.c0; have c1 := Q9.c1; have c2 := Q9.c2; have cz := Q9.fz
    go_wp2_with fail
    go_region_held3 (fun ww => ww.cell? ⟨k, 0, none⟩ = some (.int .i64 AX) ∧ ww.cell? ⟨k, 1, none⟩ = some (.int .i64 FY) ∧ ww.cell? ⟨w.heap.size, 0, none⟩ = some (.string s) ∧ ww.cell? ⟨w3.heap.size, 0, none⟩ = some (.int .i64 D1) ∧ ww.cell? ⟨w3.heap.size, 1, none⟩ = some (.int .i64 D2)) (exact qK) (first | (go_at_call 262; refine Calls.mono (HA2.out _) ?_; rintro r5 w5 ⟨rfl, h5⟩; have hz5 := h5.size; (try simp at hz5); (try have ⟨hl5_0, hk5_0⟩ := qL k w5.heap.size); (try have ⟨hl5_1, hk5_1⟩ := qL w.heap.size w5.heap.size); (try have ⟨hl5_2, hk5_2⟩ := qL w3.heap.size w5.heap.size); obtain ⟨hc5, hf5⟩ := bcell h5; have hb5_0 := fun o => hc5 (w.heap.size + 1) o qO; have fb5_0 := fun o => hf5 (w.heap.size + 1) o qO; (try have hg5_0 : w.heap.size + 1 < w5.heap.size := qo); clear hc5 hf5) | (go_at_call 196; refine Calls.mono (HJ.out _) ?_; rintro r6 w6 ⟨rfl, h6⟩; have hz6 := h6.size; (try simp at hz6); (try have ⟨hl6_0, hk6_0⟩ := qL k w6.heap.size); (try have ⟨hl6_1, hk6_1⟩ := qL w.heap.size w6.heap.size); (try have ⟨hl6_2, hk6_2⟩ := qL w3.heap.size w6.heap.size); obtain ⟨hc6, hf6⟩ := bcell h6; have hb6_0 := fun o => hc6 (w.heap.size + 1) o qO; have fb6_0 := fun o => hf6 (w.heap.size + 1) o qO; (try have hg6_0 : w.heap.size + 1 < w6.heap.size := qo); clear hc6 hf6))
    go_wp2
    (try rw [Exit.noGoto_ret])
    exact qV (.tuple #[.agg #[.int .i64 U, .int .i64 V, .bool true], .bool true]) (by simp [results, results217, go_sem, hb6_0, hb5_0, fb6_0, fb5_0, c0, c1, c2, cz]) rfl
  ·rw [decide_eq_false hc] at HBd
   by_cases hc2 : 0 < x
   ·obtain ⟨eE1, eE2⟩ := hE hc2
    rw [decide_eq_true hc2] at HBu
    obtain ⟨x2, y2, hx2, hy2, hyl2, HA2⟩ := oAlike s (x - 1) hs qo
    rw [← eE1, ← eE2] at HA2
    have HA2 : qH 262 #[.string s, .agg #[.int .i64 (E1), .int .i64 (E2)]] (.agg #[.int .i64 (att s x2), .int .i64 (fin s (att s y2))]) := HA2
    have HJ : qH 196 #[.agg #[.int .i64 (att s x), .int .i64 (fin s (att s y))], .agg #[.int .i64 (att s x2), .int .i64 (fin s (att s y2))]] (.agg #[.int .i64 (((min (att s x) (att s x2) : Nat) : Int)), .int .i64 (((max (fin s (att s y)) (fin s (att s y2)) : Nat) : Int))]) := fun ww => tJoin_nat _ _ _ _ ww
    have b1 := (att_in hyl2).1
    have b2 := fin_le b1
    refine ⟨min (att s x) (att s x2), max (fin s (att s y)) (fin s (att s y2)), true, true, by omega, by omega, fun w => ?_⟩
    generalize ((min (att s x) (att s x2) : Nat) : Int) = U at *
    generalize ((max (fin s (att s y)) (fin s (att s y2)) : Nat) : Int) = V at *
    generalize att s x2 = A9 at *
    generalize fin s (att s y2) = B9 at *
    clear a5 b1 b2 eE1 eE2 hD hE
    generalize att s x = AX at *
    generalize fin s (att s y) = FY at *
    go_enter func217, ntmps217
    go_wp2_with fail
    have G : Tri ((w.alloc (.cells #[.string s, .int .i64 p, .bool true] 213)).alloc (.cells #[.int .i64 0, .int .i64 0, .bool false] 186)) w.heap.size s p true := Tri.alloc (Tri.new _ _ _ _ _) _
    have Q : Tre ((w.alloc (.cells #[.string s, .int .i64 p, .bool true] 213)).alloc (.cells #[.int .i64 0, .int .i64 0, .bool false] 186)) (w.heap.size + 1) 0 0 false := by have := Tre.new (w.alloc (.cells #[.string s, .int .i64 p, .bool true] 213)) 0 0 false 186; simpa using this
    have hW0 : w.heap.size + 1 < ((w.alloc (.cells #[.string s, .int .i64 p, .bool true] 213)).alloc (.cells #[.int .i64 0, .int .i64 0, .bool false] 186)).heap.size := by simp
    have UW0 : Below w.heap.size w ((w.alloc (.cells #[.string s, .int .i64 p, .bool true] 213)).alloc (.cells #[.int .i64 0, .int .i64 0, .bool false] 186)) := by
     repeat exact qB
    generalize ((w.alloc (.cells #[.string s, .int .i64 p, .bool true] 213)).alloc (.cells #[.int .i64 0, .int .i64 0, .bool false] 186)) = W0 at *
    have gg0 := G.c0; have gg1 := G.c1
    go_wp2_with fail
    go_region_held3 (fun ww => ww.cell? ⟨w.heap.size, 0, none⟩ = some (.string s) ∧ ww.cell? ⟨w.heap.size, 1, none⟩ = some (.int .i64 p)) (exact qK) (first | (go_at_call 195; with_reducible refine Calls.mono (HL.out (W0.alloc (.cells #[.int .i64 0, .int .i64 0] 128)).drew) ?_; rintro r1 w1 ⟨rfl, h1⟩; have hz1 := h1.size; (try simp at hz1); (try have ⟨hl1_0, hk1_0⟩ := qL w.heap.size w1.heap.size); have nv0_0 : w1.cell? ⟨W0.heap.size, 0, none⟩ = some (.int .i64 0) := ((bcell h1).1 _ _ qO).trans qi; have nv0_1 : w1.cell? ⟨W0.heap.size, 1, none⟩ = some (.int .i64 0) := ((bcell h1).1 _ _ qO).trans qi; have nz0 : ∀ o, w1.frozen? ⟨W0.heap.size, o, none⟩ = false := fun o => ((bcell h1).2 _ o qO).trans qi; have nl0 : W0.heap.size < w1.heap.size := qo) | (go_at_call 195; with_reducible refine Calls.mono (HL.out W0.drew) ?_; rintro r1 w1 ⟨rfl, h1⟩; have hz1 := h1.size; (try simp at hz1); (try have ⟨hl1_0, hk1_0⟩ := qL w.heap.size w1.heap.size)) | (go_at_call 262; with_reducible refine Calls.mono (HA.out (w1.alloc (.cells #[.int .i64 0, .int .i64 0] 128))) ?_; rintro r2 w2 ⟨rfl, h2⟩; have hz2 := h2.size; (try simp at hz2); (try have ⟨hl2_0, hk2_0⟩ := qL w.heap.size w2.heap.size); (try have nv0_0 := memLater h2 nv0_0); (try have nv0_1 := memLater h2 nv0_1); (try have nz0 : ∀ o, w2.frozen? ⟨W0.heap.size, o, none⟩ = false := fun o => ((bcell h2).2 _ o qO).trans (nz0 o)); (try have nl0 : W0.heap.size < w2.heap.size := qo); have nv1_0 : w2.cell? ⟨w1.heap.size, 0, none⟩ = some (.int .i64 0) := ((bcell h2).1 _ _ qO).trans qi; have nv1_1 : w2.cell? ⟨w1.heap.size, 1, none⟩ = some (.int .i64 0) := ((bcell h2).1 _ _ qO).trans qi; have nz1 : ∀ o, w2.frozen? ⟨w1.heap.size, o, none⟩ = false := fun o => ((bcell h2).2 _ o qO).trans qi; have nl1 : w1.heap.size < w2.heap.size := qo) | (go_at_call 262; with_reducible refine Calls.mono (HA.out w1) ?_; rintro r2 w2 ⟨rfl, h2⟩; have hz2 := h2.size; (try simp at hz2); (try have ⟨hl2_0, hk2_0⟩ := qL w.heap.size w2.heap.size); (try have nv0_0 := memLater h2 nv0_0); (try have nv0_1 := memLater h2 nv0_1); (try have nz0 : ∀ o, w2.frozen? ⟨W0.heap.size, o, none⟩ = false := fun o => ((bcell h2).2 _ o qO).trans (nz0 o)); (try have nl0 : W0.heap.size < w2.heap.size := qo)))
    have E : PaAt w (w2.alloc (.cells #[.int .i64 AX, .int .i64 FY] 128)) w2.heap.size s p true AX FY := by
     exact qt58
    generalize (w2.alloc (.cells #[.int .i64 AX, .int .i64 FY] 128)) = W at *
    generalize w2.heap.size = k at *
    rotate_left
    have E : PaAt w ((w2.setCell ⟨w1.heap.size, 0, none⟩ (.int .i64 AX)).setCell ⟨w1.heap.size, 1, none⟩ (.int .i64 FY)) w1.heap.size s p true AX FY := by
     exact qt35
    generalize ((w2.setCell ⟨w1.heap.size, 0, none⟩ (.int .i64 AX)).setCell ⟨w1.heap.size, 1, none⟩ (.int .i64 FY)) = W at *
    generalize w1.heap.size = k at *
    rotate_left
    have E : PaAt w ((w2.setCell ⟨W0.heap.size, 0, none⟩ (.int .i64 AX)).setCell ⟨W0.heap.size, 1, none⟩ (.int .i64 FY)) W0.heap.size s p true AX FY := by
     exact qt36
    generalize ((w2.setCell ⟨W0.heap.size, 0, none⟩ (.int .i64 AX)).setCell ⟨W0.heap.size, 1, none⟩ (.int .i64 FY)) = W at *
    generalize W0.heap.size = k at *
    rotate_left
    all_goals
     obtain ⟨G, Q, T, up, lk⟩ := E
     have zu := up.size
     have g0 := G.c0; have g1 := G.c1; have g2 := G.c2
     have t0 := T.c0; have t1 := T.c1; have tl := T.lt
     have ⟨q0, q1, q2, qz, ql⟩ := Q
     go_wp2_with fail
     refine wp_loop_rounds 3 ?_
     rw [rounds_succ]
     go_wp2_with fail
     refine (HBd.out _).mono ?_
     rintro r3 w3 ⟨rfl, h3⟩
     obtain ⟨hc3, hf3, hz3⟩ := qb h3
     (try simp at hz3)
     have G3 : Tri w3 (w.heap.size) (s) (p) (true) := qTi
     have ⟨G3_0, G3_1, G3_2, G3_z, G3_l⟩ := G3
     have Q3 : Tre w3 (w.heap.size + 1) (0) (0) (false) := qTe
     have ⟨Q3_0, Q3_1, Q3_2, Q3_z, Q3_l⟩ := Q3
     have T3 : Two w3 (k) (AX) (FY) := qTw
     have ⟨T3_0, T3_1, T3_z, T3_l⟩ := T3
     clear hc3 hf3
     go_wp2_with fail
     rw [rounds_succ]
     go_wp2_with fail
     refine (HBu.out _).mono ?_
     rintro r4 w4 ⟨rfl, h4⟩
     obtain ⟨hc4, hf4, hz4⟩ := qb h4
     (try simp at hz4)
     have G4 : Tri w4 (w.heap.size) (s) (p) (true) := qTi
     have ⟨G4_0, G4_1, G4_2, G4_z, G4_l⟩ := G4
     have Q4 : Tre w4 (w.heap.size + 1) (0) (0) (false) := qTe
     have ⟨Q4_0, Q4_1, Q4_2, Q4_z, Q4_l⟩ := Q4
     have T4 : Two w4 (k) (AX) (FY) := qTw
     have ⟨T4_0, T4_1, T4_z, T4_l⟩ := T4
     clear hc4 hf4
     have N9 : Two (w4.alloc (.cells #[.int .i64 E1, .int .i64 E2] 128)) w4.heap.size E1 E2 := Two.new _ _ _ _
     have G9 := G4.alloc (.cells #[.int .i64 E1, .int .i64 E2] 128)
     have Q9 := Q4.alloc (.cells #[.int .i64 E1, .int .i64 E2] 128)
     have T9 := T4.alloc (.cells #[.int .i64 E1, .int .i64 E2] 128)
     have n0 := N9.c0; have n1 := N9.c1; have s0 := T9.c0; have s1 := T9.c1; have v0 := G9.c0
     have c0 := Q9.c0; have c1 := Q9.c1; have c2 := Q9.c2; have cz := Q9.fz
     go_wp2_with fail
     go_region_held3 (fun ww => ww.cell? ⟨k, 0, none⟩ = some (.int .i64 AX) ∧ ww.cell? ⟨k, 1, none⟩ = some (.int .i64 FY) ∧ ww.cell? ⟨w.heap.size, 0, none⟩ = some (.string s) ∧ ww.cell? ⟨w4.heap.size, 0, none⟩ = some (.int .i64 E1) ∧ ww.cell? ⟨w4.heap.size, 1, none⟩ = some (.int .i64 E2)) (exact qK) (first | (go_at_call 262; refine Calls.mono (HA2.out _) ?_; rintro r5 w5 ⟨rfl, h5⟩; have hz5 := h5.size; (try simp at hz5); (try have ⟨hl5_0, hk5_0⟩ := qL k w5.heap.size); (try have ⟨hl5_1, hk5_1⟩ := qL w.heap.size w5.heap.size); (try have ⟨hl5_2, hk5_2⟩ := qL w4.heap.size w5.heap.size); obtain ⟨hc5, hf5⟩ := bcell h5; have hb5_0 := fun o => hc5 (w.heap.size + 1) o qO; have fb5_0 := fun o => hf5 (w.heap.size + 1) o qO; (try have hg5_0 : w.heap.size + 1 < w5.heap.size := qo); clear hc5 hf5) | (go_at_call 196; refine Calls.mono (HJ.out _) ?_; rintro r6 w6 ⟨rfl, h6⟩; have hz6 := h6.size; (try simp at hz6); (try have ⟨hl6_0, hk6_0⟩ := qL k w6.heap.size); (try have ⟨hl6_1, hk6_1⟩ := qL w.heap.size w6.heap.size); (try have ⟨hl6_2, hk6_2⟩ := qL w4.heap.size w6.heap.size); obtain ⟨hc6, hf6⟩ := bcell h6; have hb6_0 := fun o => hc6 (w.heap.size + 1) o qO; have fb6_0 := fun o => hf6 (w.heap.size + 1) o qO; (try have hg6_0 : w.heap.size + 1 < w6.heap.size := qo); clear hc6 hf6))
     go_wp2
     (try rw [Exit.noGoto_ret])
     exact qV (.tuple #[.agg #[.int .i64 U, .int .i64 V, .bool true], .bool true]) (by simp [results, results217, go_sem, hb6_0, hb5_0, fb6_0, fb5_0, c0, c1, c2, cz]) rfl
   ·rw [decide_eq_false hc2] at HBu
    refine ⟨0, 0, false, false, Nat.le_refl _, Nat.zero_le _, fun w => ?_⟩
    clear a5 hD hE
    generalize att s x = AX at *
    generalize fin s (att s y) = FY at *
    go_enter func217, ntmps217
    go_wp2_with fail
    have G : Tri ((w.alloc (.cells #[.string s, .int .i64 p, .bool true] 213)).alloc (.cells #[.int .i64 0, .int .i64 0, .bool false] 186)) w.heap.size s p true := Tri.alloc (Tri.new _ _ _ _ _) _
    have Q : Tre ((w.alloc (.cells #[.string s, .int .i64 p, .bool true] 213)).alloc (.cells #[.int .i64 0, .int .i64 0, .bool false] 186)) (w.heap.size + 1) 0 0 false := by have := Tre.new (w.alloc (.cells #[.string s, .int .i64 p, .bool true] 213)) 0 0 false 186; simpa using this
    have hW0 : w.heap.size + 1 < ((w.alloc (.cells #[.string s, .int .i64 p, .bool true] 213)).alloc (.cells #[.int .i64 0, .int .i64 0, .bool false] 186)).heap.size := by simp
    have UW0 : Below w.heap.size w ((w.alloc (.cells #[.string s, .int .i64 p, .bool true] 213)).alloc (.cells #[.int .i64 0, .int .i64 0, .bool false] 186)) := by
     repeat exact qB
    generalize ((w.alloc (.cells #[.string s, .int .i64 p, .bool true] 213)).alloc (.cells #[.int .i64 0, .int .i64 0, .bool false] 186)) = W0 at *
    have gg0 := G.c0; have gg1 := G.c1
    go_wp2_with fail
    go_region_held3 (fun ww => ww.cell? ⟨w.heap.size, 0, none⟩ = some (.string s) ∧ ww.cell? ⟨w.heap.size, 1, none⟩ = some (.int .i64 p)) (exact qK) (first | (go_at_call 195; with_reducible refine Calls.mono (HL.out (W0.alloc (.cells #[.int .i64 0, .int .i64 0] 128)).drew) ?_; rintro r1 w1 ⟨rfl, h1⟩; have hz1 := h1.size; (try simp at hz1); (try have ⟨hl1_0, hk1_0⟩ := qL w.heap.size w1.heap.size); have nv0_0 : w1.cell? ⟨W0.heap.size, 0, none⟩ = some (.int .i64 0) := ((bcell h1).1 _ _ qO).trans qi; have nv0_1 : w1.cell? ⟨W0.heap.size, 1, none⟩ = some (.int .i64 0) := ((bcell h1).1 _ _ qO).trans qi; have nz0 : ∀ o, w1.frozen? ⟨W0.heap.size, o, none⟩ = false := fun o => ((bcell h1).2 _ o qO).trans qi; have nl0 : W0.heap.size < w1.heap.size := qo) | (go_at_call 195; with_reducible refine Calls.mono (HL.out W0.drew) ?_; rintro r1 w1 ⟨rfl, h1⟩; have hz1 := h1.size; (try simp at hz1); (try have ⟨hl1_0, hk1_0⟩ := qL w.heap.size w1.heap.size)) | (go_at_call 262; with_reducible refine Calls.mono (HA.out (w1.alloc (.cells #[.int .i64 0, .int .i64 0] 128))) ?_; rintro r2 w2 ⟨rfl, h2⟩; have hz2 := h2.size; (try simp at hz2); (try have ⟨hl2_0, hk2_0⟩ := qL w.heap.size w2.heap.size); (try have nv0_0 := memLater h2 nv0_0); (try have nv0_1 := memLater h2 nv0_1); (try have nz0 : ∀ o, w2.frozen? ⟨W0.heap.size, o, none⟩ = false := fun o => ((bcell h2).2 _ o qO).trans (nz0 o)); (try have nl0 : W0.heap.size < w2.heap.size := qo); have nv1_0 : w2.cell? ⟨w1.heap.size, 0, none⟩ = some (.int .i64 0) := ((bcell h2).1 _ _ qO).trans qi; have nv1_1 : w2.cell? ⟨w1.heap.size, 1, none⟩ = some (.int .i64 0) := ((bcell h2).1 _ _ qO).trans qi; have nz1 : ∀ o, w2.frozen? ⟨w1.heap.size, o, none⟩ = false := fun o => ((bcell h2).2 _ o qO).trans qi; have nl1 : w1.heap.size < w2.heap.size := qo) | (go_at_call 262; with_reducible refine Calls.mono (HA.out w1) ?_; rintro r2 w2 ⟨rfl, h2⟩; have hz2 := h2.size; (try simp at hz2); (try have ⟨hl2_0, hk2_0⟩ := qL w.heap.size w2.heap.size); (try have nv0_0 := memLater h2 nv0_0); (try have nv0_1 := memLater h2 nv0_1); (try have nz0 : ∀ o, w2.frozen? ⟨W0.heap.size, o, none⟩ = false := fun o => ((bcell h2).2 _ o qO).trans (nz0 o)); (try have nl0 : W0.heap.size < w2.heap.size := qo)))
    have E : PaAt w (w2.alloc (.cells #[.int .i64 AX, .int .i64 FY] 128)) w2.heap.size s p true AX FY := by
     exact qt58
    generalize (w2.alloc (.cells #[.int .i64 AX, .int .i64 FY] 128)) = W at *
    generalize w2.heap.size = k at *
    rotate_left
    have E : PaAt w ((w2.setCell ⟨w1.heap.size, 0, none⟩ (.int .i64 AX)).setCell ⟨w1.heap.size, 1, none⟩ (.int .i64 FY)) w1.heap.size s p true AX FY := by
     exact qt35
    generalize ((w2.setCell ⟨w1.heap.size, 0, none⟩ (.int .i64 AX)).setCell ⟨w1.heap.size, 1, none⟩ (.int .i64 FY)) = W at *
    generalize w1.heap.size = k at *
    rotate_left
    have E : PaAt w ((w2.setCell ⟨W0.heap.size, 0, none⟩ (.int .i64 AX)).setCell ⟨W0.heap.size, 1, none⟩ (.int .i64 FY)) W0.heap.size s p true AX FY := by
     exact qt36
    generalize ((w2.setCell ⟨W0.heap.size, 0, none⟩ (.int .i64 AX)).setCell ⟨W0.heap.size, 1, none⟩ (.int .i64 FY)) = W at *
    generalize W0.heap.size = k at *
    rotate_left
    all_goals
     obtain ⟨G, Q, T, up, lk⟩ := E
     have zu := up.size
     have g0 := G.c0; have g1 := G.c1; have g2 := G.c2
     have t0 := T.c0; have t1 := T.c1; have tl := T.lt
     have ⟨q0, q1, q2, qz, ql⟩ := Q
     go_wp2_with fail
     refine wp_loop_rounds 3 ?_
     rw [rounds_succ]
     go_wp2_with fail
     refine (HBd.out _).mono ?_
     rintro r3 w3 ⟨rfl, h3⟩
     obtain ⟨hc3, hf3, hz3⟩ := qb h3
     (try simp at hz3)
     have G3 : Tri w3 (w.heap.size) (s) (p) (true) := qTi
     have ⟨G3_0, G3_1, G3_2, G3_z, G3_l⟩ := G3
     have Q3 : Tre w3 (w.heap.size + 1) (0) (0) (false) := qTe
     have ⟨Q3_0, Q3_1, Q3_2, Q3_z, Q3_l⟩ := Q3
     have T3 : Two w3 (k) (AX) (FY) := qTw
     have ⟨T3_0, T3_1, T3_z, T3_l⟩ := T3
     clear hc3 hf3
     go_wp2_with fail
     rw [rounds_succ]
     go_wp2_with fail
     refine (HBu.out _).mono ?_
     rintro r4 w4 ⟨rfl, h4⟩
     obtain ⟨hc4, hf4, hz4⟩ := qb h4
     (try simp at hz4)
     have G4 : Tri w4 (w.heap.size) (s) (p) (true) := qTi
     have ⟨G4_0, G4_1, G4_2, G4_z, G4_l⟩ := G4
     have Q4 : Tre w4 (w.heap.size + 1) (0) (0) (false) := qTe
     have ⟨Q4_0, Q4_1, Q4_2, Q4_z, Q4_l⟩ := Q4
     have T4 : Two w4 (k) (AX) (FY) := qTw
     have ⟨T4_0, T4_1, T4_z, T4_l⟩ := T4
     clear hc4 hf4
     go_wp2_with fail
     rw [rounds_succ]
     go_wp2
     exact qV (.tuple #[.agg #[.int .i64 0, .int .i64 0, .bool false], .bool false]) (by simp [results, results217, go_sem, Q4_0, Q4_1, Q4_2, Q4_z, Q4_l]) rfl
theorem mKeepI_grow (b r d : Nat) (tv : Value) (dg : ByteArray) (key : Int) (ao : Option Addr) (n cap : Nat) (xs : List Value) (w : World) (hb : BdAt w b r d tv dg) (htv : tv = .slice ao n cap) (hnone : ao = none → n = 0 ∧ cap = 0) (hsome : ∀ a, ao = some a → ∃ g, a = ⟨g, 0, none⟩)
  (ho : w.ownsRow 0 5 1 tv n xs) (hc : cap < n + 1) (hn : n ≤ 17592186044416) (hn0 : 0 < n) :
  Calls Tryz.prog 47 #[.pointer (some ⟨b, 1, none⟩), .int .u8 key, .int .i64 1] w fun e w' => e = .returned (.tuple #[]) ∧ ∃ tv', BdAt w' b r d tv' dg ∧ w'.ownsRow (w.heap.size + 1) 5 1 tv' (n + 1) (xs ++ [.int .u8 key]) ∧ Upd [b] w w' := by
 have HB := hb
 obtain ⟨b0, b1, b2, b3, b4, b5, bz, bl⟩ := hb
 subst htv
 obtain ⟨i0, hi, hz0, hz1, hz2⟩ := info_parts infoU8
 have HL : Hid (xs.length = n * 1) := ho.1
 have HO : Hid (∀ o : Obj, ∀ a, ao = some a → ∀ j u, xs[j]? = some u → (w.alloc o).cell? (a.add j) = some u) := by
  intro o a ha j u hu
  obtain ⟨g, rfl⟩ := hsome a ha
  subst ha
  exact (ho.alloc o).cells (g := g) rfl j u hu
 have HN : Hid (∀ j u, [Value.int .u8 key][j]? = some u → (w.alloc (.cells #[.int .u8 key] 5)).cell? ((⟨w.heap.size, 0, none⟩ : Addr).add j) = some u) := by
  intro j u hj
  match j, hj with
  | 0, hj => simp at hj; subst hj; simp [Addr.add]
 clear ho hsome
 have hn1 : (0 : Int) < ((n : Nat) : Int) := by omega
 exact qt29
theorem mKeepI_room (b r d g : Nat) (dg : ByteArray) (key : Int) (n cap : Nat) (xs : List Value) (w : World) (hb : BdAt w b r d (.slice (some ⟨g, 0, none⟩) n cap) dg) (hgb : g ≠ b)
  (ho : w.ownsRow 0 5 1 (.slice (some ⟨g, 0, none⟩) n cap) n xs) (hc : n + 1 ≤ cap) (hn : n ≤ 17592186044416) (hn0 : 0 < n) :
  Calls Tryz.prog 47 #[.pointer (some ⟨b, 1, none⟩), .int .u8 key, .int .i64 1] w fun e w' => e = .returned (.tuple #[]) ∧ BdAt w' b r d (.slice (some ⟨g, 0, none⟩) (n + 1) cap) dg ∧ w'.ownsRow 0 5 1 (.slice (some ⟨g, 0, none⟩) (n + 1) cap) (n + 1) (xs ++ [.int .u8 key]) ∧ Upd [b, g] w w' := by
 have HB := hb
 obtain ⟨b0, b1, b2, b3, b4, b5, bz, bl⟩ := hb
 obtain ⟨i0, hi, hz0, hz1, hz2⟩ := info_parts infoU8
 have HO : Hid (∀ o : Obj, (w.alloc o).ownsRow 0 5 1 (.slice (some ⟨g, 0, none⟩) n cap) n xs) := fun o => ho.alloc o
 have HN : Hid (∀ j u, [Value.int .u8 key][j]? = some u → (w.alloc (.cells #[.int .u8 key] 5)).cell? ((⟨w.heap.size, 0, none⟩ : Addr).add j) = some u) := by
  intro j u hj
  match j, hj with
  | 0, hj => simp at hj; subst hj; simp [Addr.add]
 clear ho
 have hn1 : (0 : Int) < ((n : Nat) : Int) := by omega
 exact qt33
theorem mKeep_ins (b r d : Nat) (tv : Value) (dg : ByteArray) (key : Int) (n : Nat) (xs : List Value) (w : World) (hb : BdAt w b r d tv dg) (hne : tv.ownBlock ≠ some b)
  (ho : w.ownsRow 0 5 1 tv n xs) (hn : n ≤ 17592186044416) (hn0 : 0 < n) :
  Calls Tryz.prog 47 #[.pointer (some ⟨b, 1, none⟩), .int .u8 key, .int .i64 1] w fun e w' => e = .returned (.tuple #[]) ∧ ∃ tv', BdAt w' b r d tv' dg ∧ w'.ownsRow 0 5 1 tv' (n + 1) (xs ++ [.int .u8 key]) ∧ (tv'.ownBlock = tv.ownBlock ∨ ∃ g, tv'.ownBlock = some g ∧ w.heap.size ≤ g) ∧ Upd (b :: own tv) w w' := by
 rcases ho.2 with ⟨rfl, rfl⟩ | ⟨g, cap, cur, rfl, h1, h2, h3, h4⟩
 ·omega
 ·by_cases hc : n + 1 ≤ cap
  ·have hgb : g ≠ b := fun e => hne (by rw [e]; rfl)
   refine Calls.mono (mKeepI_room b r d g dg key n cap xs w hb hgb ho hc hn hn0) ?_
   rintro e w' ⟨rfl, hB, hO, hU⟩
   exact ⟨rfl, _, hB, hO, Or.inl rfl, hU.mono (by simp [own, Value.ownBlock])⟩
  ·refine Calls.mono (mKeepI_grow b r d _ dg key (some ⟨g, 0, none⟩) n cap xs w hb rfl (fun h => by cases h) (fun a h => ⟨g, by simpa using h.symm⟩) ho qo hn hn0) ?_
   rintro e w' ⟨rfl, tv', hB, hO, hU⟩
   obtain ⟨g', cp, rfl, hg⟩ := owned_some hO qo
   exact ⟨rfl, _, hB, ownsRow_base hO (Nat.zero_le _), Or.inr ⟨g', rfl, by omega⟩, hU.mono qi⟩
theorem mKeep_insNo (b r d : Nat) (a : Option Addr) (cap : Nat) (dg : ByteArray) (key : Int) (w : World) (hb : BdAt w b r d (.slice a 0 cap) dg) :
  qC 47 #[.pointer (some ⟨b, 1, none⟩), .int .u8 key, .int .i64 1] w (.tuple #[]) := by
 obtain ⟨b0, b1, b2, b3, b4, b5, bz, bl⟩ := hb
 go_enter func47, ntmps47
 go_wp2
 go_end0
 exact ⟨rfl, Below.refl _ _⟩
theorem mEnd_no (b r d : Nat) (a : Option Addr) (cap : Nat) (dg : ByteArray) (O : Int) (w : World) (hb : BdAt w b r d (.slice a 0 cap) dg) :
  Calls Tryz.prog 48 #[.pointer (some ⟨b, 1, none⟩), .int .i64 O] w fun e w' => e = .returned (.tuple #[]) ∧ BdAt w' b r d (.slice none 0 0) dg ∧ Upd [b] w w' := by
 by_cases hO : O = 2
 ·have HS := hb.set_tv (.slice none 0 0)
  obtain ⟨b0, b1, b2, b3, b4, b5, bz, bl⟩ := hb
  subst hO
  go_enter func48, ntmps48
  go_wp2
  go_end0
  refine ⟨rfl, HS, ?_⟩
  repeat exact qU
 ·exact mEnd b r d _ dg O w hb hO
