/- A part. -/
import Derived.Test.YtlendfhehhacpaaGreatQ45
import Derived.Test.YtlendfhehhacpaaGreatQ26
import Derived.Test.YtlendfhehhacpaaGreatQ42
set_option linter.unusedVariables false
set_option linter.unusedSimpArgs false
set_option maxRecDepth 100000
set_option maxHeartbeats 8000000
namespace Go.Proofs.YtlendfhehhacpaaGreat
open Go.RowKit Nib Tryz
theorem bTake_marking_moreB (b r d : Nat) (tv : Value) (dg : ByteArray) (p : Pg) (key : Int) (A B : World → Prop) (T : List Nat) (w : World) (hb : BdAt w b r d tv dg) (hA : A w) (fA : Firm A) (fB : Firm B) (hr : HasR A r d p) (hm : p.mode = 2 ∨ p.mode = 3) (hk : ¬ key = 27)
  (HC : GivesB 309 #[.agg #[.pointer (some ⟨r, 0, none⟩)], .int .u8 key] A B 0 T) :
  Calls Tryz.prog 46 #[.pointer (some ⟨b, 0, none⟩), .int .u8 key] w fun e w' => e = .returned (.int .i64 0) ∧ B w' ∧ Upd T w w' := by
 have HO : Hid (∀ ww, BdAt ww b r d tv dg → RdAt ww r d p → qC 64 #[.pointer (some ⟨b, 0, none⟩)] ww (.iface 81 (.agg #[.pointer (some ⟨r, 0, none⟩)]))) := fun ww h1 h2 => mOn_marking b r d tv dg p ww h1 h2 hm
 have H := hr w hA
 have hk' : (key == 27) = false := by simp [hk]
 have hmt := meth_marking_take ⟨r, 0, none⟩
 clear hm hk
 go_enter func46, ntmps46
 go_wp2_with fail
 refine Calls.mono (HO.out _ hb H) ?_
 rintro e w1 ⟨rfl, h1⟩
 exact qt55
theorem GoodL.none {t : ByteArray} {m : Nat} {p : Pg} (h : GoodL t m p) : GoodL t m p.none' :=
 ⟨h.tx, h.now, h.ts, h.pl, h.st, h.an, h.mo, Nat.zero_le _, Nat.zero_le _, Or.inl rfl, Or.inl rfl, h.fd, h.rg⟩
