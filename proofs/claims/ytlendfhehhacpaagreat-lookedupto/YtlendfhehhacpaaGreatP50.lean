/- Joined of the texts AnyD, TextN, LookC, LookD. -/
import Derived.Test.YtlendfhehhacpaaGreatP30
import Derived.Test.YtlendfhehhacpaaGreatP49
import Derived.Test.YtlendfhehhacpaaGreatP48
set_option linter.unusedVariables false
set_option linter.unusedSimpArgs false
set_option maxRecDepth 100000
set_option maxHeartbeats 8000000
namespace Go.Proofs.YtlendfhehhacpaaGreat
open Go.RowKit
def AnyOk : Prop := ∀ (s : ByteArray) (p : Nat), s.size ≤ 1000 → p ≤ s.size →
  Hid (∀ ww, Calls Tryz.prog 254 #[.string (s.extract p (Nib.fin s p)), .string ⟨#[40, 41, 91, 93, 123, 125]⟩] ww fun e w' => e = .returned (.int .i64 (brkAt s p)) ∧ Below ww.heap.size ww w')
end Go.Proofs.YtlendfhehhacpaaGreat
namespace Go.Proofs.YtlendfhehhacpaaGreat
open Go.RowKit Go.Shelf
def rowBr (k : Nat) : Bool := (Nib.prt (k : Int) == 0) == !(kBr.data.toList.contains (UInt8.ofNat k))
theorem rowBr_all : ∀ k : Nat, k < 256 → rowBr k = true := by decide +kernel
theorem br_iff (u : UInt8) : (Nib.prt (u.toNat : Int) == 0) = !(kBr.data.toList.contains u) := by
  have h := rowBr_all u.toNat u.toNat_lt
  simp only [rowBr, beq_iff_eq] at h
  rw [h]
  simp
theorem ext_get {s : ByteArray} {a b j : Nat} (hb : b ≤ s.size) (h : a + j < b) : ∃ (h1 : j < (s.extract a b).size) (h2 : a + j < s.size), (s.extract a b)[j]'h1 = s[a + j]'h2 :=
  ⟨by rw [ByteArray.size_extract]; omega, by omega, ByteArray.getElem_extract ..⟩
theorem indexAny_brk (s : ByteArray) (p : Nat) (hp : p ≤ s.size) : Lib.indexAny (s.extract p (Nib.fin s p)).data.toList kBr.data.toList = brkAt s p := by
  have hf := Nib.fin_le hp
  have hg := Nib.fin_ge s p
  have hXs : (s.extract p (Nib.fin s p)).size = Nib.fin s p - p := by rw [ByteArray.size_extract]; omega
  have hu1 := Nib.up_ge (Nib.nobr s) (Nib.fin s p) p
  have hu2 := Nib.up_le (c := Nib.nobr s) (n := Nib.fin s p) (p := p) hg
  have hno : ∀ i, p + i ≤ Nib.up (Nib.nobr s) (Nib.fin s p) p → Lib.NoAny (s.extract p (Nib.fin s p)).data.toList kBr.data.toList i := by
    intro i hi j b hj hb
    have hjs : j < (s.extract p (Nib.fin s p)).size := by
      have := (List.getElem?_eq_some_iff.1 hb).1
      rw [Array.length_toList] at this; exact this
    obtain ⟨h1, h2, e⟩ := ext_get (s := s) (a := p) (b := Nib.fin s p) (j := j) hf (by omega)
    have hbe : (s.extract p (Nib.fin s p))[j]'h1 = b := by
      have := (List.getElem?_eq_some_iff.1 hb).2
      rw [← this]
      simp [ByteArray.getElem_eq_getElem_data]
    rw [e] at hbe
    have hn := Nib.up_all (c := Nib.nobr s) (n := Nib.fin s p) (p := p) (i := p + j) (by omega) (by omega)
    simp only [Nib.nobr, Nib.bt_in h2, hbe] at hn
    rw [br_iff] at hn
    simpa using hn
  unfold brkAt
  by_cases h : Nib.up (Nib.nobr s) (Nib.fin s p) p < Nib.fin s p
  · rw [if_pos h]
    obtain ⟨k, hk⟩ : ∃ k, Nib.up (Nib.nobr s) (Nib.fin s p) p = p + k := ⟨Nib.up (Nib.nobr s) (Nib.fin s p) p - p, by omega⟩
    obtain ⟨h1, h2, e⟩ := ext_get (s := s) (a := p) (b := Nib.fin s p) (j := k) hf (by omega)
    have hx := Nib.up_end h
    rw [hk] at hx
    simp only [Nib.nobr, Nib.bt_in h2] at hx
    rw [br_iff] at hx
    have hc : kBr.data.toList.contains ((s.extract p (Nib.fin s p))[k]'h1) = true := by rw [e]; simpa using hx
    rw [Lib.indexAny_hit (hno k (by omega)) (Lib.data_getElem? _ k h1) hc]
    omega
  · rw [if_neg h]
    refine Lib.indexAny_none ?_
    rw [← Lib.size_eq, hXs]
    exact hno _ (by omega)
theorem anyOk : AnyOk := by
  intro s p hs hp ww
  have hf := Nib.fin_le hp
  have hXs : (s.extract p (Nib.fin s p)).size = Nib.fin s p - p := by rw [ByteArray.size_extract]; omega
  rw [← indexAny_brk s p hp]
  by_cases h8 : (s.extract p (Nib.fin s p)).size ≤ 8
  · exact anyShort _ ww h8
  · exact anyLong _ ww (by omega) (by omega)
end Go.Proofs.YtlendfhehhacpaaGreat
namespace Go.Proofs.YtlendfhehhacpaaGreat
open Go.RowKit
theorem GoodL.arr {t : ByteArray} {m : Nat} {p : Pg} (h : GoodL t m p) (R : Int × Int × Bool) (hR : R.2.2 = false → 0 ≤ R.1 ∧ R.1 ≤ t.size) : GoodL t m (arrEd p R) := by
  unfold arrEd
  split
  · exact h
  · rename_i hz
    have hR' := hR (by cases hh : R.2.2 <;> simp_all)
    have hq : R.1.toNat ≤ t.size := by omega
    rw [h.tx]
    exact ⟨rfl, h.now, h.ts, Nib.clm_in hq, Nib.clm_settled hq, h.an, h.mo, h.n, h.bh, h.vb, h.pt, h.fd, h.rg⟩
theorem isFind_ne {k : Int} (h : Nib.isFind k = true) : ¬ k = 0 ∧ ¬ k = 34 ∧ ¬ k = 103 := by
  simp only [Nib.isFind, Bool.or_eq_true, beq_iff_eq] at h
  omega
theorem isFind_flp {k : Int} (h : Nib.isFind k = true) : Nib.isFind (Nib.flp k) = true := by
  simp only [Nib.isFind, Bool.or_eq_true, beq_iff_eq] at h
  rcases h with ((h | h) | h) | h <;> subst h <;> decide
def agW (t : ByteArray) (p : Pg) (k : Int) (v : Bool) : Int × Int × Bool := if k = 0 then ((0 : Int), (0 : Int), true) else Nib.goWay t p.pl k p.findC (max (cnt p) 1) (decide (0 < cnt p)) v true
theorem lWay0 (HA : AnyOk) (r d m : Nat) (p : Pg) (t : ByteArray) (key : Int) (hg : GoodL t m p) (hv : p.verb = 0) (hk : (isPlainWay key = true ∧ ¬ key = 103) ∨ Nib.isFind key = true ∨ key = 103 ∨ key = 59 ∨ key = 44) :
    ∃ O p2, (O = 0 ∨ O = 1 ∨ O = 4) ∧ GoodL t m p2 ∧ GivesR 148 #[.pointer (some ⟨r, 0, none⟩), .int .u8 key] r d p p2 O := by
  have hc := cnt_le hg.n hg.bh
  have hs : p.t.size ≤ 1000 := by rw [hg.tx]; exact hg.ts
  have hin : ∀ (k ch : Int) (given b : Bool), (Nib.goWay t p.pl k ch (max (cnt p) 1) given false b).2.2 = false → 0 ≤ (Nib.goWay t p.pl k ch (max (cnt p) 1) given false b).1 ∧ (Nib.goWay t p.pl k ch (max (cnt p) 1) given false b).1 ≤ t.size := fun k ch given b h => Nib.goWay_in k ch given b hg.pl (by omega) h
  have hO : ∀ R : Int × Int × Bool, (if R.2.2 = true then (4 : Int) else 1) = 0 ∨ (if R.2.2 = true then (4 : Int) else 1) = 1 ∨ (if R.2.2 = true then (4 : Int) else 1) = 4 := by intro R; split <;> simp
  rcases hk with ⟨hk, h103⟩ | hk | hk | hk | hk
  · have h := fun ww => sGo_way t p.pl (cnt p) key 0 false ww hg.ts hg.pl hc hg.st hk (HA t p.pl hg.ts hg.pl)
    have hn1 : Nib.isFind key = false ∧ ¬ key = 59 ∧ ¬ key = 44 := by
      simp only [isPlainWay, Bool.or_eq_true, beq_iff_eq] at hk
      refine ⟨?_, by omega, by omega⟩
      simp only [Nib.isFind, Bool.or_eq_false_iff, beq_eq_false_iff_ne]
      omega
    have hi := hin key 0 (decide (0 < cnt p)) false
    generalize Nib.goWay t p.pl key 0 (max (cnt p) 1) (decide (0 < cnt p)) false false = R at h hi
    exact ⟨_, arrEd p R, hO R, hg.arr R hi, GivesR.of_d (fun ww hh => mWay_go r d p key R ww hh hg.n hg.bh hs hv (by rw [hg.tx]; exact hi) hn1.1 h103 hn1.2.1 hn1.2.2 (by rw [hg.tx]; exact h))⟩
  · refine ⟨0, { p with part := key }, Or.inl rfl, ?_, GivesR.of_r (fun ww hh => mWay_part r d p key ww hh (Or.inl hk))⟩
    exact ⟨hg.tx, hg.now, hg.ts, hg.pl, hg.st, hg.an, hg.mo, hg.n, hg.bh, hg.vb, Or.inr (Or.inl hk), hg.fd, hg.rg⟩
  · refine ⟨0, { p with part := key }, Or.inl rfl, ?_, GivesR.of_r (fun ww hh => mWay_part r d p key ww hh (Or.inr hk))⟩
    exact ⟨hg.tx, hg.now, hg.ts, hg.pl, hg.st, hg.an, hg.mo, hg.n, hg.bh, hg.vb, Or.inr (Or.inr hk), hg.fd, hg.rg⟩
  · subst hk
    have h : ∀ ww, Calls Tryz.prog 183 #[.agg #[.int .u8 p.fnd, .int .u8 p.findC], .agg #[.string t, .int .i64 (p.pl), .int .i64 (cnt p), .bool false, .bool false]] ww fun e w' => e = .returned (.tuple #[.agg #[.int .i64 (wayX (agW t p p.fnd false)), .int .i64 (wayK (agW t p p.fnd false))], .bool (wayZ (agW t p p.fnd false))]) ∧ Below ww.heap.size ww w' := by
      intro ww
      unfold agW
      rcases hg.fd with hf | hf
      · rw [if_pos hf, hf]; exact sFind_again0 t p.pl (cnt p) p.findC ww
      · rw [if_neg (isFind_ne hf).1]; exact sFind_again t p.pl (cnt p) p.fnd p.findC _ ww hg.ts hg.pl hc hf
    have hi : (agW t p p.fnd false).2.2 = false → 0 ≤ (agW t p p.fnd false).1 ∧ (agW t p p.fnd false).1 ≤ t.size := by
      unfold agW
      split
      · intro h; simp at h
      · exact hin _ _ _ _
    generalize agW t p p.fnd false = R at h hi
    exact ⟨_, arrEd p R, hO R, hg.arr R hi, GivesR.of_d (fun ww hh => mWay_again r d p R ww hh hg.n hg.bh hs hv (by rw [hg.tx]; exact hi) (by rw [hg.tx]; exact h))⟩
  · subst hk
    have h : ∀ ww, Calls Tryz.prog 183 #[.agg #[.int .u8 (Nib.flp p.fnd), .int .u8 p.findC], .agg #[.string t, .int .i64 (p.pl), .int .i64 (cnt p), .bool false, .bool false]] ww fun e w' => e = .returned (.tuple #[.agg #[.int .i64 (wayX (agW t p (Nib.flp p.fnd) false)), .int .i64 (wayK (agW t p (Nib.flp p.fnd) false))], .bool (wayZ (agW t p (Nib.flp p.fnd) false))]) ∧ Below ww.heap.size ww w' := by
      intro ww
      unfold agW
      rcases hg.fd with hf | hf
      · have h0 : Nib.flp p.fnd = 0 := by rw [hf]; decide
        rw [if_pos h0, h0]; exact sFind_again0 t p.pl (cnt p) p.findC ww
      · rw [if_neg (isFind_ne (isFind_flp hf)).1]; exact sFind_again t p.pl (cnt p) _ p.findC _ ww hg.ts hg.pl hc (isFind_flp hf)
    have hi : (agW t p (Nib.flp p.fnd) false).2.2 = false → 0 ≤ (agW t p (Nib.flp p.fnd) false).1 ∧ (agW t p (Nib.flp p.fnd) false).1 ≤ t.size := by
      unfold agW
      split
      · intro h; simp at h
      · exact hin _ _ _ _
    generalize agW t p (Nib.flp p.fnd) false = R at h hi
    exact ⟨_, arrEd p R, hO R, hg.arr R hi, GivesR.of_d (fun ww hh => mWay_turned r d p (Nib.flp p.fnd) R ww hh hg.n hg.bh hs hv (by rw [hg.tx]; exact hi) (fun ww => sTurned_any p.fnd p.findC ww hg.fd) (by rw [hg.tx]; exact h))⟩
def LX (r d m : Nat) (t : ByteArray) (ww : World) : Prop := ∃ p f, RdAt ww r d p ∧ RgAt ww m f ∧ GoodL t m p
theorem LX.firm {r d m : Nat} {t : ByteArray} : Firm (LX r d m t) := fun _ _ ⟨p, f, h1, h2, h3⟩ hb => ⟨p, f, h1.below hb, h2.below hb, h3⟩
theorem LB.x {r d m : Nat} {t : ByteArray} {a c : Int} {ww : World} (h : LB r d m t a c ww) : LX r d m t ww := by
  obtain ⟨p, f, h1, h2, h3, _⟩ := h
  exact ⟨p, f, h1, h2, h3⟩
theorem GivesB.x {fn : Nat} {args : Array Value} {r d m : Nat} {t : ByteArray} {a c : Int} {A : World → Prop} {O : Int} {T : List Nat} (h : GivesB fn args A (LB r d m t a c) O T) : GivesB fn args A (LX r d m t) O T :=
  fun ww hh => Calls.mono (h ww hh) (fun _ _ ⟨x, y, z⟩ => ⟨x, y.x, z⟩)
theorem GoodL.find {t : ByteArray} {m : Nat} {p : Pg} (h : GoodL t m p) (key : Int) (hp : Nib.isFind p.part = true) : GoodL t m { p with fnd := p.part, findC := key } :=
  ⟨h.tx, h.now, h.ts, h.pl, h.st, h.an, h.mo, h.n, h.bh, h.vb, h.pt, Or.inr hp, h.rg⟩
theorem lCompl0 (HA : AnyOk) (r d m : Nat) (p : Pg) (t : ByteArray) (key : Int) (hg : GoodL t m p) (hv : p.verb = 0) (hp : Nib.isFind p.part = true ∨ p.part = 103) :
    ∃ O p2, (O = 1 ∨ O = 4) ∧ GoodL t m p2 ∧ GivesR 145 #[.pointer (some ⟨r, 0, none⟩), .int .u8 key] r d p p2 O := by
  have hc := cnt_le hg.n hg.bh
  have hs : p.t.size ≤ 1000 := by rw [hg.tx]; exact hg.ts
  have hO : ∀ R : Int × Int × Bool, (if R.2.2 = true then (4 : Int) else 1) = 1 ∨ (if R.2.2 = true then (4 : Int) else 1) = 4 := by intro R; split <;> simp
  rcases hp with hp | hp
  · have h := fun ww => sFind_go t p.pl (cnt p) p.part key (decide (0 < cnt p)) ww hg.ts hg.pl hc hp
    have hi := Nib.goWay_in (s := t) (p := p.pl) (n := max (cnt p) 1) p.part key (decide (0 < cnt p)) false hg.pl (by omega)
    generalize Nib.goWay t p.pl p.part key (max (cnt p) 1) (decide (0 < cnt p)) false false = R at h hi
    exact ⟨_, _, hO R, (hg.find key hp).arr R hi, GivesR.of_d (fun ww hh => mComplete_find r d p key R ww hh hg.n hg.bh hs hv hp (by rw [hg.tx]; exact hi) (by rw [hg.tx]; exact h))⟩
  · by_cases hk : key = 103
    · subst hk
      have h := fun ww => sGo_way t p.pl (cnt p) 103 0 false ww hg.ts hg.pl hc hg.st (by decide) (HA t p.pl hg.ts hg.pl)
      have hi := Nib.goWay_in (s := t) (p := p.pl) (n := max (cnt p) 1) 103 0 (decide (0 < cnt p)) false hg.pl (by omega)
      generalize Nib.goWay t p.pl 103 0 (max (cnt p) 1) (decide (0 < cnt p)) false false = R at h hi
      exact ⟨_, _, hO R, hg.arr R hi, GivesR.of_d (fun ww hh => mComplete_gg r d p R ww hh hg.n hg.bh hs hv hp (by rw [hg.tx]; exact hi) (by rw [hg.tx]; exact h))⟩
    · exact ⟨4, p, Or.inr rfl, hg, GivesR.of_below (fun ww hh => mComplete_g r d p key ww hh hp hk)⟩
theorem lWayV (HA : AnyOk) (r d m : Nat) (p : Pg) (f : Int → Value) (t : ByteArray) (key : Int) (hg : GoodL t m p) (mr : m ≠ r) (md : m ≠ d) (rd : r ≠ d) (hv : p.verb = 121) (hk : (isPlainWay key = true ∧ ¬ key = 103) ∨ Nib.isFind key = true ∨ key = 103 ∨ key = 59 ∨ key = 44 ∨ key = 118 ∨ key = 86) :
    ∃ O, (O = 0 ∨ O = 1 ∨ O = 4) ∧ GivesB 148 #[.pointer (some ⟨r, 0, none⟩), .int .u8 key] (LA r d m p f) (LX r d m t) O [r, d, m] := by
  have hc := cnt_le hg.n hg.bh
  have htk : ∀ (k ch : Int) (given b : Bool), (Nib.goWay t p.pl k ch (max (cnt p) 1) given true b).2.2 = false → Nib.Takes t p.pl (Nib.goWay t p.pl k ch (max (cnt p) 1) given true b) := fun k ch given b h => Nib.goWay_takes k ch given b hg.pl hg.st (by omega) h
  have ho : ∀ O : Int, (O = 1 ∨ O = 4) → (O = 0 ∨ O = 1 ∨ O = 4) := fun O h => Or.inr h
  rcases hk with ⟨hk, h103⟩ | hk | hk | hk | hk | hk
  · have h := fun ww => sGo_wayV t p.pl (cnt p) key 0 false ww hg.ts hg.pl hc hk (HA t p.pl hg.ts hg.pl)
    have hn1 : Nib.isFind key = false ∧ ¬ key = 59 ∧ ¬ key = 44 := by
      simp only [isPlainWay, Bool.or_eq_true, beq_iff_eq] at hk
      refine ⟨?_, by omega, by omega⟩
      simp only [Nib.isFind, Bool.or_eq_false_iff, beq_eq_false_iff_ne]
      omega
    have hi := htk key 0 (decide (0 < cnt p)) false
    generalize Nib.goWay t p.pl key 0 (max (cnt p) 1) (decide (0 < cnt p)) true false = R at h hi
    obtain ⟨O, hO, HR⟩ := lArrive r d m p f t R hg mr md rd hv hi
    exact ⟨O, ho O hO, GivesB.x (fun ww hh => mWay_goB r d p key (wayX R) (wayK R) O (wayZ R) _ _ [r, d, m] ww hh LA.firm LB.firm (fun _ h => h.1) hg.n hg.bh hn1.1 h103 hn1.2.1 hn1.2.2 (by rw [hg.tx, hv]; exact h) HR)⟩
  · refine ⟨0, Or.inl rfl, GivesB.x (GivesB.of_R (p2 := { p with part := key }) (fun ww hh => (GivesR.of_r (fun ww hh => mWay_part r d p key ww hh (Or.inl hk))) ww hh) ?_ mr md)⟩
    exact ⟨hg.tx, hg.now, hg.ts, hg.pl, hg.st, hg.an, hg.mo, hg.n, hg.bh, hg.vb, Or.inr (Or.inl hk), hg.fd, hg.rg⟩
  · refine ⟨0, Or.inl rfl, GivesB.x (GivesB.of_R (p2 := { p with part := key }) (fun ww hh => (GivesR.of_r (fun ww hh => mWay_part r d p key ww hh (Or.inr hk))) ww hh) ?_ mr md)⟩
    exact ⟨hg.tx, hg.now, hg.ts, hg.pl, hg.st, hg.an, hg.mo, hg.n, hg.bh, hg.vb, Or.inr (Or.inr hk), hg.fd, hg.rg⟩
  · subst hk
    have h : ∀ ww, Calls Tryz.prog 183 #[.agg #[.int .u8 p.fnd, .int .u8 p.findC], .agg #[.string t, .int .i64 (p.pl), .int .i64 (cnt p), .bool true, .bool false]] ww fun e w' => e = .returned (.tuple #[.agg #[.int .i64 (wayX (agW t p p.fnd true)), .int .i64 (wayK (agW t p p.fnd true))], .bool (wayZ (agW t p p.fnd true))]) ∧ Below ww.heap.size ww w' := by
      intro ww
      unfold agW
      rcases hg.fd with hf | hf
      · rw [if_pos hf, hf]; exact sFind_again0V t p.pl (cnt p) p.findC ww
      · rw [if_neg (isFind_ne hf).1]; exact sFind_againV t p.pl (cnt p) p.fnd p.findC _ ww hg.ts hg.pl hc hf
    have hi : (agW t p p.fnd true).2.2 = false → Nib.Takes t p.pl (agW t p p.fnd true) := by
      unfold agW
      split
      · intro h; simp at h
      · exact htk _ _ _ _
    generalize agW t p p.fnd true = R at h hi
    obtain ⟨O, hO, HR⟩ := lArrive r d m p f t R hg mr md rd hv hi
    exact ⟨O, ho O hO, GivesB.x (fun ww hh => mWay_againB r d p (wayX R) (wayK R) O (wayZ R) _ _ [r, d, m] ww hh LA.firm LB.firm (fun _ h => h.1) LB.find hg.n hg.bh (by rw [hg.tx, hv]; exact h) HR)⟩
  · subst hk
    have h : ∀ ww, Calls Tryz.prog 183 #[.agg #[.int .u8 (Nib.flp p.fnd), .int .u8 p.findC], .agg #[.string t, .int .i64 (p.pl), .int .i64 (cnt p), .bool true, .bool false]] ww fun e w' => e = .returned (.tuple #[.agg #[.int .i64 (wayX (agW t p (Nib.flp p.fnd) true)), .int .i64 (wayK (agW t p (Nib.flp p.fnd) true))], .bool (wayZ (agW t p (Nib.flp p.fnd) true))]) ∧ Below ww.heap.size ww w' := by
      intro ww
      unfold agW
      rcases hg.fd with hf | hf
      · have h0 : Nib.flp p.fnd = 0 := by rw [hf]; decide
        rw [if_pos h0, h0]; exact sFind_again0V t p.pl (cnt p) p.findC ww
      · rw [if_neg (isFind_ne (isFind_flp hf)).1]; exact sFind_againV t p.pl (cnt p) _ p.findC _ ww hg.ts hg.pl hc (isFind_flp hf)
    have hi : (agW t p (Nib.flp p.fnd) true).2.2 = false → Nib.Takes t p.pl (agW t p (Nib.flp p.fnd) true) := by
      unfold agW
      split
      · intro h; simp at h
      · exact htk _ _ _ _
    generalize agW t p (Nib.flp p.fnd) true = R at h hi
    obtain ⟨O, hO, HR⟩ := lArrive r d m p f t R hg mr md rd hv hi
    exact ⟨O, ho O hO, GivesB.x (fun ww hh => mWay_turnedB r d p (Nib.flp p.fnd) (wayX R) (wayK R) O (wayZ R) _ _ [r, d, m] ww hh LA.firm LB.firm (fun _ h => h.1) hg.n hg.bh (fun ww => sTurned_any p.fnd p.findC ww hg.fd) (by rw [hg.tx, hv]; exact h) HR)⟩
  · have hpw : isPlainWay key = false ∧ Nib.isFind key = false ∧ ¬ key = 103 ∧ ¬ key = 59 ∧ ¬ key = 44 := by
      rcases hk with hk | hk <;> subst hk <;> decide
    have h := fun ww => sGo_none t p.pl (cnt p) key true false ww hpw.1
    refine ⟨4, Or.inr (Or.inr rfl), GivesB.x (a := p.fnd) (c := p.findC) (fun ww hh => mWay_goB r d p key 0 0 4 false _ _ [r, d, m] ww hh LA.firm LB.firm (fun _ h => h.1) hg.n hg.bh hpw.2.1 hpw.2.2.1 hpw.2.2.2.1 hpw.2.2.2.2 (by rw [hg.tx, hv]; exact h) (fun w2 h2 => Calls.mono (mArrive_fail r 0 0 (LA r d m p f) [r, d, m] w2 h2 LA.firm) ?_))⟩
    rintro e w' ⟨rfl, h1, h2⟩
    exact ⟨rfl, ⟨p, f, h1.1, h1.2, hg, rfl, rfl⟩, h2⟩
theorem lComplV (HA : AnyOk) (r d m : Nat) (p : Pg) (f : Int → Value) (t : ByteArray) (key : Int) (hg : GoodL t m p) (mr : m ≠ r) (md : m ≠ d) (rd : r ≠ d) (hv : p.verb = 121) (hp : Nib.isFind p.part = true ∨ p.part = 103) :
    ∃ O, (O = 1 ∨ O = 4) ∧ GivesB 145 #[.pointer (some ⟨r, 0, none⟩), .int .u8 key] (LA r d m p f) (LX r d m t) O [r, d, m] := by
  have hc := cnt_le hg.n hg.bh
  have htk : ∀ (k ch : Int) (given b : Bool), (Nib.goWay t p.pl k ch (max (cnt p) 1) given true b).2.2 = false → Nib.Takes t p.pl (Nib.goWay t p.pl k ch (max (cnt p) 1) given true b) := fun k ch given b h => Nib.goWay_takes k ch given b hg.pl hg.st (by omega) h
  rcases hp with hp | hp
  · have h := fun ww => sFind_goV t p.pl (cnt p) p.part key (decide (0 < cnt p)) ww hg.ts hg.pl hc hp
    have hi := htk p.part key (decide (0 < cnt p)) false
    generalize Nib.goWay t p.pl p.part key (max (cnt p) 1) (decide (0 < cnt p)) true false = R at h hi
    obtain ⟨O, hO, HR⟩ := lArrive r d m { p with fnd := p.part, findC := key } f t R (hg.find key hp) mr md rd hv hi
    refine ⟨O, hO, GivesB.x (fun ww hh => mComplete_findB r d p key (wayX R) (wayK R) O (wayZ R) (LA r d m p f) (LA r d m { p with fnd := p.part, findC := key } f) _ [r, d, m] ww hh LA.firm LA.firm LB.firm (fun _ h => h.1) (fun _ h => h.1) LB.find (by simp) hg.n hg.bh hp (fun w2 h2 => ⟨(h2.1.set_fnd p.part).set_findC key, (h2.2.other md _).other md _⟩) (by rw [hg.tx, hv]; exact h) HR)⟩
  · by_cases hk : key = 103
    · subst hk
      have h := fun ww => sGo_wayV t p.pl (cnt p) 103 0 false ww hg.ts hg.pl hc (by decide) (HA t p.pl hg.ts hg.pl)
      have hi := htk 103 0 (decide (0 < cnt p)) false
      generalize Nib.goWay t p.pl 103 0 (max (cnt p) 1) (decide (0 < cnt p)) true false = R at h hi
      obtain ⟨O, hO, HR⟩ := lArrive r d m p f t R hg mr md rd hv hi
      exact ⟨O, hO, GivesB.x (fun ww hh => mComplete_ggB r d p (wayX R) (wayK R) O (wayZ R) _ _ [r, d, m] ww hh LA.firm LB.firm (fun _ h => h.1) hg.n hg.bh hp (by rw [hg.tx, hv]; exact h) HR)⟩
    · exact ⟨4, Or.inr rfl, GivesB.x (GivesB.of_R (GivesR.of_below (fun ww hh => mComplete_g r d p key ww hh hp hk)) hg mr md)⟩
end Go.Proofs.YtlendfhehhacpaaGreat
