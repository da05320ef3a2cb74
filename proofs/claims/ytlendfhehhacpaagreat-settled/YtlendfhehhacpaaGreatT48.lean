/- A part. -/
import Derived.Test.YtlendfhehhacpaaGreatT47
import Derived.Test.YtlendfhehhacpaaGreatT24
import Derived.Test.YtlendfhehhacpaaGreatT41
set_option linter.unusedVariables false
set_option linter.unusedSimpArgs false
set_option maxRecDepth 100000
set_option maxHeartbeats 8000000
namespace Go.Proofs.YtlendfhehhacpaaGreat
open Go.RowKit Nib Tryz
theorem GoodL.arr {t : ByteArray} {m : Nat} {p : Pg} (h : GoodL t m p) (R : Int × Int × Bool) (hR : R.2.2 = false → 0 ≤ R.1 ∧ R.1 ≤ t.size) : GoodL t m (arrEd p R) := by
 unfold arrEd
 split
 ·exact h
 ·rename_i hz
  have hR' := hR (by cases hh : R.2.2 <;> simp_all)
  have hq : R.1.toNat ≤ t.size := by omega
  rw [h.tx]
  exact ⟨rfl, h.now, h.ts, clm_in hq, clm_settled hq, h.an, h.mo, h.n, h.bh, h.vb, h.pt, h.fd, h.rg⟩
theorem isFind_ne {k : Int} (h : isFind k = true) : ¬ k = 0 ∧ ¬ k = 34 ∧ ¬ k = 103 := by
 simp only [isFind, Bool.or_eq_true, beq_iff_eq] at h
 omega
theorem isFind_flp {k : Int} (h : isFind k = true) : isFind (flp k) = true := by
 simp only [isFind, Bool.or_eq_true, beq_iff_eq] at h
 rcases h with ((h | h) | h) | h <;> subst h <;> decide
def agW (t : ByteArray) (p : Pg) (k : Int) (v : Bool) : Int × Int × Bool := if k = 0 then ((0 : Int), (0 : Int), true) else goWay t p.pl k p.findC (max (cnt p) 1) (decide (0 < cnt p)) v true
def LX (r d m : Nat) (t : ByteArray) (ww : World) : Prop := ∃ p f, RdAt ww r d p ∧ RgAt ww m f ∧ GoodL t m p
theorem LX.firm {r d m : Nat} {t : ByteArray} : Firm (LX r d m t) := fun _ _ ⟨p, f, h1, h2, h3⟩ hb => ⟨p, f, h1.below hb, h2.below hb, h3⟩
theorem LB.x {r d m : Nat} {t : ByteArray} {a c : Int} {ww : World} (h : LB r d m t a c ww) : LX r d m t ww := by
 obtain ⟨p, f, h1, h2, h3, _⟩ := h
 exact ⟨p, f, h1, h2, h3⟩
theorem GivesB.x {fn : Nat} {args : Array Value} {r d m : Nat} {t : ByteArray} {a c : Int} {A : World → Prop} {O : Int} {T : List Nat} (h : GivesB fn args A (LB r d m t a c) O T) : GivesB fn args A (LX r d m t) O T :=
 fun ww hh => Calls.mono (h ww hh) (fun _ _ ⟨x, y, z⟩ => ⟨x, y.x, z⟩)
theorem GoodL.find {t : ByteArray} {m : Nat} {p : Pg} (h : GoodL t m p) (key : Int) (hp : isFind p.part = true) : GoodL t m { p with fnd := p.part, findC := key } :=
 ⟨h.tx, h.now, h.ts, h.pl, h.st, h.an, h.mo, h.n, h.bh, h.vb, h.pt, Or.inr hp, h.rg⟩
theorem nextN_le (n : Nat) (c : Int) : nextN n c ≤ 99 := by unfold nextN; split <;> omega
theorem mMTake_cmdB (r d : Nat) (p : Pg) (key O : Int) (A B : World → Prop) (T : List Nat) (w : World) (hA : A w) (fA : Firm A) (fB : Firm B) (hr : HasR A r d p) (hp : p.part = 0) (hv : p.verb = 0) (hd : isD p.n key = false)
  (HC : GivesB 310 #[.agg #[.pointer (some ⟨r, 0, none⟩)], .int .u8 key] A B O T) :
  Calls Tryz.prog 309 #[.agg #[.pointer (some ⟨r, 0, none⟩)], .int .u8 key] w fun e w' => e = .returned (.int .i64 O) ∧ B w' ∧ Upd T w w' := by
 have H := hr w hA
 have HD : Hid (∀ ww, RdAt ww r d p → qC 139 #[.pointer (some ⟨r, 1, none⟩), .int .u8 key] ww (.bool false)) := fun ww hh => mDigit_no r d p key ww hh hv hd
 obtain ⟨b0, b1, b2, b3, b4, b5, bz, bl⟩ := H.bg
 rw [hp] at b5
 rw [hv] at b3
 clear b1 b2 b4 hp hv hd
 have l1 : r < w.heap.size + 1 := by omega
 go_enter func309, ntmps309
 exact qt70
theorem mCommand_wayB (r d : Nat) (p : Pg) (key O : Int) (A B : World → Prop) (T : List Nat) (w : World) (hA : A w) (fA : Firm A) (fB : Firm B) (hr : HasR A r d p) (hk : ∀ c, c ∈ kCmd → ¬ key = c)
  (HC : GivesB 148 #[.pointer (some ⟨r, 0, none⟩), .int .u8 key] A B O T) :
  Calls Tryz.prog 141 #[.agg #[.pointer (some ⟨r, 0, none⟩)], .int .u8 key] w fun e w' => e = .returned (.int .i64 O) ∧ B w' ∧ Upd T w w' := by
 have H := hr w hA
 have bl := H.bg.lt
 have l1 : r < w.heap.size + 1 := by omega
 have k34 : (key == 34) = false := by simp [hk 34 qd]
 have k100 : (key == 100) = false := by simp [hk 100 qd]
 have k99 : (key == 99) = false := by simp [hk 99 qd]
 have k121 : (key == 121) = false := by simp [hk 121 qd]
 have k62 : (key == 62) = false := by simp [hk 62 qd]
 have k60 : (key == 60) = false := by simp [hk 60 qd]
 have k114 : (key == 114) = false := by simp [hk 114 qd]
 have k118 : (key == 118) = false := by simp [hk 118 qd]
 have k86 : (key == 86) = false := by simp [hk 86 qd]
 have k120 : (key == 120) = false := by simp [hk 120 qd]
 have k88 : (key == 88) = false := by simp [hk 88 qd]
 have k68 : (key == 68) = false := by simp [hk 68 qd]
 have k67 : (key == 67) = false := by simp [hk 67 qd]
 have k115 : (key == 115) = false := by simp [hk 115 qd]
 have k83 : (key == 83) = false := by simp [hk 83 qd]
 have k89 : (key == 89) = false := by simp [hk 89 qd]
 have k105 : (key == 105) = false := by simp [hk 105 qd]
 have k97 : (key == 97) = false := by simp [hk 97 qd]
 have k73 : (key == 73) = false := by simp [hk 73 qd]
 have k65 : (key == 65) = false := by simp [hk 65 qd]
 have k111 : (key == 111) = false := by simp [hk 111 qd]
 have k79 : (key == 79) = false := by simp [hk 79 qd]
 have k112 : (key == 112) = false := by simp [hk 112 qd]
 have k80 : (key == 80) = false := by simp [hk 80 qd]
 have k126 : (key == 126) = false := by simp [hk 126 qd]
 have k74 : (key == 74) = false := by simp [hk 74 qd]
 have k117 : (key == 117) = false := by simp [hk 117 qd]
 have k18 : (key == 18) = false := by simp [hk 18 qd]
 have k46 : (key == 46) = false := by simp [hk 46 qd]
 clear hk
 go_enter func141, ntmps141
 exact qt54
theorem mMCommand_wayB (r d : Nat) (p : Pg) (key O : Int) (A B : World → Prop) (T : List Nat) (w : World) (hA : A w) (fA : Firm A) (fB : Firm B) (hr : HasR A r d p) (hk : ∀ c, c ∈ kMrk → ¬ key = c)
  (HC : GivesB 148 #[.pointer (some ⟨r, 0, none⟩), .int .u8 key] A B O T) :
  Calls Tryz.prog 310 #[.agg #[.pointer (some ⟨r, 0, none⟩)], .int .u8 key] w fun e w' => e = .returned (.int .i64 O) ∧ B w' ∧ Upd T w w' := by
 have H := hr w hA
 have bl := H.bg.lt
 have l1 : r < w.heap.size + 1 := by omega
 have k34 : (key == 34) = false := by simp [hk 34 qd]
 have k105 : (key == 105) = false := by simp [hk 105 qd]
 have k97 : (key == 97) = false := by simp [hk 97 qd]
 have k111 : (key == 111) = false := by simp [hk 111 qd]
 have k118 : (key == 118) = false := by simp [hk 118 qd]
 have k86 : (key == 86) = false := by simp [hk 86 qd]
 have k120 : (key == 120) = false := by simp [hk 120 qd]
 have k115 : (key == 115) = false := by simp [hk 115 qd]
 have k100 : (key == 100) = false := by simp [hk 100 qd]
 have k99 : (key == 99) = false := by simp [hk 99 qd]
 have k121 : (key == 121) = false := by simp [hk 121 qd]
 have k62 : (key == 62) = false := by simp [hk 62 qd]
 have k60 : (key == 60) = false := by simp [hk 60 qd]
 have k117 : (key == 117) = false := by simp [hk 117 qd]
 have k85 : (key == 85) = false := by simp [hk 85 qd]
 clear hk
 go_enter func310, ntmps310
 exact qt54
theorem mMTake_partB (r d : Nat) (p : Pg) (key O : Int) (A B : World → Prop) (T : List Nat) (w : World) (hA : A w) (fA : Firm A) (fB : Firm B) (hr : HasR A r d p) (hp : ¬ p.part = 0)
  (HC : GivesB 145 #[.pointer (some ⟨r, 0, none⟩), .int .u8 key] A B O T) :
  Calls Tryz.prog 309 #[.agg #[.pointer (some ⟨r, 0, none⟩)], .int .u8 key] w fun e w' => e = .returned (.int .i64 O) ∧ B w' ∧ Upd T w w' := by
 have H := hr w hA
 obtain ⟨b0, b1, b2, b3, b4, b5, bz, bl⟩ := H.bg
 clear b1 b2 b3 b4
 have l1 : r < w.heap.size + 1 := by omega
 have hp' : (p.part == 0) = false := by simp [hp]
 have hp2 : (p.part != 0) = true := by simp [hp]
 clear hp
 go_enter func309, ntmps309
 exact qt54
theorem bTake_marking_moreB (b r d : Nat) (tv : Value) (dg : ByteArray) (p : Pg) (key : Int) (A B : World → Prop) (T : List Nat) (w : World) (hb : BdAt w b r d tv dg) (hA : A w) (fA : Firm A) (fB : Firm B) (hr : HasR A r d p) (hm : p.mode = 2 ∨ p.mode = 3) (hk : ¬ key = 27)
  (HC : GivesB 309 #[.agg #[.pointer (some ⟨r, 0, none⟩)], .int .u8 key] A B 0 T) :
  Calls Tryz.prog 46 #[.pointer (some ⟨b, 0, none⟩), .int .u8 key] w fun e w' => e = .returned (.int .i64 0) ∧ B w' ∧ Upd T w w' := by
 have HO : Hid (∀ ww, BdAt ww b r d tv dg → RdAt ww r d p → qC 64 #[.pointer (some ⟨b, 0, none⟩)] ww (.iface 81 (.agg #[.pointer (some ⟨r, 0, none⟩)]))) := fun ww h1 h2 => mOn_marking b r d tv dg p ww h1 h2 hm
 have H := hr w hA
 have hk' : (key == 27) = false := by simp [hk]
 have hmt := meth_marking_take ⟨r, 0, none⟩
 clear hm hk
 go_enter func46, ntmps46
 go_wp2_with fail
 refine Calls.mono (HO.out _ hb H) ?_
 rintro e w1 ⟨rfl, h1⟩
 exact qt54
theorem GoodL.none {t : ByteArray} {m : Nat} {p : Pg} (h : GoodL t m p) : GoodL t m p.none' :=
 ⟨h.tx, h.now, h.ts, h.pl, h.st, h.an, h.mo, Nat.zero_le _, Nat.zero_le _, Or.inl rfl, Or.inl rfl, h.fd, h.rg⟩
theorem one_byte (s : ByteArray) (k : Nat) (h : k < s.size) : s.extract k (k + 1) = ⟨#[s[k]'h]⟩ := by
 apply ByteArray.ext
 rw [ByteArray.data_extract]
 apply Array.ext
 ·simp; have : s.data.size = s.size := rfl; omega
 ·intro i h1 h2
  have hi : i = 0 := by simp at h2; omega
  subst hi
  simp [ByteArray.getElem_eq_getElem_data]
