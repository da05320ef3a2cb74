/- A part. -/
import Derived.Test.YtlendfhehhacpaaGreatP46
import Derived.Test.YtlendfhehhacpaaGreatP26
import Derived.Test.YtlendfhehhacpaaGreatP42
set_option linter.unusedVariables false
set_option linter.unusedSimpArgs false
set_option maxRecDepth 100000
set_option maxHeartbeats 8000000
namespace Go.Proofs.YtlendfhehhacpaaGreat
open Go.RowKit
theorem bTake_marking_moreB (b r d : Nat) (tv : Value) (dg : ByteArray) (p : Pg) (key : Int) (A B : World → Prop) (T : List Nat) (w : World) (hb : BdAt w b r d tv dg) (hA : A w) (fA : Firm A) (fB : Firm B) (hr : HasR A r d p) (hm : p.mode = 2 ∨ p.mode = 3) (hk : ¬ key = 27)
  (HC : GivesB 309 #[.agg #[.pointer (some ⟨r, 0, none⟩)], .int .u8 key] A B 0 T) :
  Calls Tryz.prog 46 #[.pointer (some ⟨b, 0, none⟩), .int .u8 key] w fun e w' => e = .returned (.int .i64 0) ∧ B w' ∧ Upd T w w' := by
 have HO : Hid (∀ ww, BdAt ww b r d tv dg → RdAt ww r d p → qC 64 #[.pointer (some ⟨b, 0, none⟩)] ww (.iface 81 (.agg #[.pointer (some ⟨r, 0, none⟩)]))) := fun ww h1 h2 => mOn_marking b r d tv dg p ww h1 h2 hm
 have H := hr w hA
 have hk' : (key == 27) = false := by simp [hk]
 have hmt := meth_marking_take ⟨r, 0, none⟩
 clear hm hk
 go_enter Tryz.func46, Tryz.ntmps46
 go_wp2_with fail
 refine Calls.mono (HO.out _ hb H) ?_
 rintro e w1 ⟨rfl, h1⟩
 exact qt57
def LkS (w0 : World) (b r d m : Nat) (t : ByteArray) (N : Nat) (ww : World) : Prop :=
 ∃ p f tv n xs dg, BdAt ww b r d tv dg ∧ ww.ownsRow 0 5 1 tv n xs ∧ n ≤ N ∧ RdAt ww r d p ∧ RgAt ww m f ∧ GoodL t m p ∧ (∀ k, tv.ownBlock = some k → w0.heap.size ≤ k) ∧ Upd [b, r, d, m] w0 ww
theorem GoodL.none {t : ByteArray} {m : Nat} {p : Pg} (h : GoodL t m p) : GoodL t m p.none' :=
 ⟨h.tx, h.now, h.ts, h.pl, h.st, h.an, h.mo, Nat.zero_le _, Nat.zero_le _, Or.inl rfl, Or.inl rfl, h.fd, h.rg⟩
theorem LkS.state {w0 ww : World} {q b r d m N : Nat} {t : ByteArray} (h : LkS w0 b r d m t N ww) (hq : ww.cell? ⟨q, 0, none⟩ = some (.pointer (some ⟨b, 0, none⟩))) :
  Calls Tryz.prog 18 #[.pointer (some ⟨q, 0, none⟩)] ww fun e w' => ∃ a c o : Int, ∃ l, e = .returned (.agg #[.string t, .int .i64 a, .int .i64 c, .int .i64 o, .bool l]) ∧ Below ww.heap.size ww w' := by
 obtain ⟨p, f, tv, n, xs, dg, HB, _, _, HR, _, hg, _⟩ := h
 refine Calls.mono (nState q b r d tv dg p ww hq HB HR) ?_
 rintro e w' ⟨rfl, h⟩
 rw [hg.tx]
 exact ⟨_, _, _, _, rfl, h⟩
theorem LkS.below {w0 ww ww' : World} {b r d m N : Nat} {t : ByteArray} (h : LkS w0 b r d m t N ww) (hb : Below ww.heap.size ww ww') : LkS w0 b r d m t N ww' := by
 obtain ⟨p, f, tv, n, xs, dg, h1, h2, h3, h4, h5, h6, h7, h8⟩ := h
 exact ⟨p, f, tv, n, xs, dg, h1.below hb, ownsRow_upd h2 (Upd.of_below (S := []) hb) qi, h3, h4.below hb, h5.below hb, h6, h7, Upd.below h8 hb⟩
theorem LkS.mono {w0 ww : World} {b r d m N M : Nat} {t : ByteArray} (h : LkS w0 b r d m t N ww) (hn : N ≤ M) : LkS w0 b r d m t M ww := by
 obtain ⟨p, f, tv, n, xs, dg, h1, h2, h3, h4⟩ := h
 exact ⟨p, f, tv, n, xs, dg, h1, h2, by omega, h4⟩
theorem LkS.up {w0 ww : World} {b r d m N : Nat} {t : ByteArray} (h : LkS w0 b r d m t N ww) : Upd [b, r, d, m] w0 ww := by
 obtain ⟨_, _, _, _, _, _, _, _, _, _, _, _, _, hup⟩ := h
 exact hup
end Go.Proofs.YtlendfhehhacpaaGreat
