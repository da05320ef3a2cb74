/- Joined of the texts WalkM4, WalkT, WalkT3, WalkT2, WalkT1, WalkU. -/
import Derived.Test.YtlendfhehhacpaaGreatP21
import Derived.Test.YtlendfhehhacpaaGreatP22
import Derived.Test.YtlendfhehhacpaaGreatP23
import Derived.Test.YtlendfhehhacpaaGreatP24
import Derived.Test.YtlendfhehhacpaaGreatP19
import Derived.BigRegion
import Derived.Deep.RegionHeld3
set_option linter.unusedVariables false
set_option linter.unusedSimpArgs false
set_option maxRecDepth 100000
set_option maxHeartbeats 8000000
namespace Go.Proofs.YtlendfhehhacpaaGreat
open Go.RowKit
theorem read_one (s : ByteArray) (marked : Bool) (w : World) (h0 : 0 < s.size) (hq : Nib.bt s 0 = 34) (h1 : s.size = 1) :
    Calls Tryz.prog 43 #[.string s, .bool marked] w fun e w' => e = .returned (.agg #[.bool (Nib.rd s marked).more, .bool (Nib.rd s marked).bad, .int .i64 (Nib.rd s marked).reg, .int .i64 (Nib.rd s marked).n, .bool (Nib.rd s marked).given, .int .u8 (Nib.rd s marked).verb, .bool (Nib.rd s marked).twice, .int .u8 (Nib.rd s marked).object, .bool (Nib.rd s marked).around, .int .u8 (Nib.rd s marked).way, .int .u8 (Nib.rd s marked).other, .int .u8 (Nib.rd s marked).c]) ∧ Below w.heap.size w w' := by
  have HZ : Hid (Nib.rd s marked = Nib.cMore) := by rw [Hid, Nib.rd, if_pos hq, if_pos h1]
  have hq' : (((s[0]'h0).toNat : Int) == 34) = true := by rw [← Nib.bt_in h0]; simp [hq]
  have hs1 : ((s.size : Int) == 1) = true := by simp [h1]
  generalize Nib.rd s marked = y at *
  clear hq h1
  go_enter Tryz.func43, Tryz.ntmps43
  go_wp2_with fail
  refine (more_any _).mono ?_
  rintro e w3 ⟨rfl, h3⟩
  obtain ⟨hc3, hf3⟩ := bcell h3
  have hz3 := h3.size
  try simp at hz3
  have h30 := fun o => hc3 w.heap.size o (by simp <;> omega)
  go_wp2
  refine bodyPost_ret (v := .agg #[.bool Nib.cMore.more, .bool Nib.cMore.bad, .int .i64 Nib.cMore.reg, .int .i64 Nib.cMore.n, .bool Nib.cMore.given, .int .u8 Nib.cMore.verb, .bool Nib.cMore.twice, .int .u8 Nib.cMore.object, .bool Nib.cMore.around, .int .u8 Nib.cMore.way, .int .u8 Nib.cMore.other, .int .u8 Nib.cMore.c]) (by simp [results, Tryz.results43, go_sem, h30]) rfl ⟨by rw [HZ.out], ?_⟩
  repeat (with_reducible first | exact Below.refl _ _ | refine b_s ?_ _ | refine b_a ?_ _ | refine Below.drew ?_ | refine below_drewN ?_ _ | refine b_t ?_ h3)
theorem read_noreg (s : ByteArray) (marked : Bool) (w : World) (h0 : 0 < s.size) (hq : Nib.bt s 0 = 34) (h1 : 1 < s.size) (hsl : Nib.slotN (Nib.bt s 1) < 0) :
    Calls Tryz.prog 43 #[.string s, .bool marked] w fun e w' => e = .returned (.agg #[.bool (Nib.rd s marked).more, .bool (Nib.rd s marked).bad, .int .i64 (Nib.rd s marked).reg, .int .i64 (Nib.rd s marked).n, .bool (Nib.rd s marked).given, .int .u8 (Nib.rd s marked).verb, .bool (Nib.rd s marked).twice, .int .u8 (Nib.rd s marked).object, .bool (Nib.rd s marked).around, .int .u8 (Nib.rd s marked).way, .int .u8 (Nib.rd s marked).other, .int .u8 (Nib.rd s marked).c]) ∧ Below w.heap.size w w' := by
  have HZ : Hid (Nib.rd s marked = Nib.cBad) := by rw [Hid, Nib.rd, if_pos hq, if_neg (by omega), if_pos hsl]
  have hq' : (((s[0]'h0).toNat : Int) == 34) = true := by rw [← Nib.bt_in h0]; simp [hq]
  have hs1 : ((s.size : Int) == 1) = false := by simp; omega
  have hb1 := Nib.bt_hi s 1
  rw [Nib.bt_in h1] at hsl hb1
  generalize Nib.rd s marked = y at *
  clear hq
  go_enter Tryz.func43, Tryz.ntmps43
  go_wp2_with fail
  refine (slot_any _ _ (by omega) (by omega)).mono ?_
  rintro e w' ⟨rfl, rfl⟩
  generalize Nib.slotN ((s[1]'h1).toNat : Int) = sl at *
  go_wp2_with fail
  refine (bad_any _).mono ?_
  rintro e w3 ⟨rfl, h3⟩
  obtain ⟨hc3, hf3⟩ := bcell h3
  have hz3 := h3.size
  try simp at hz3
  have h30 := fun o => hc3 w.heap.size o (by simp <;> omega)
  go_wp2
  refine bodyPost_ret (v := .agg #[.bool Nib.cBad.more, .bool Nib.cBad.bad, .int .i64 Nib.cBad.reg, .int .i64 Nib.cBad.n, .bool Nib.cBad.given, .int .u8 Nib.cBad.verb, .bool Nib.cBad.twice, .int .u8 Nib.cBad.object, .bool Nib.cBad.around, .int .u8 Nib.cBad.way, .int .u8 Nib.cBad.other, .int .u8 Nib.cBad.c]) (by simp [results, Tryz.results43, go_sem, h30]) rfl ⟨by rw [HZ.out], ?_⟩
  repeat (with_reducible first | exact Below.refl _ _ | refine b_s ?_ _ | refine b_a ?_ _ | refine Below.drew ?_ | refine below_drewN ?_ _ | refine b_t ?_ h3)
theorem read_any (s : ByteArray) (marked : Bool) (w : World) (hs : s.size ≤ 35184372088832) (h0 : 0 < s.size) :
    Calls Tryz.prog 43 #[.string s, .bool marked] w fun e w' => e = .returned (.agg #[.bool (Nib.rd s marked).more, .bool (Nib.rd s marked).bad, .int .i64 (Nib.rd s marked).reg, .int .i64 (Nib.rd s marked).n, .bool (Nib.rd s marked).given, .int .u8 (Nib.rd s marked).verb, .bool (Nib.rd s marked).twice, .int .u8 (Nib.rd s marked).object, .bool (Nib.rd s marked).around, .int .u8 (Nib.rd s marked).way, .int .u8 (Nib.rd s marked).other, .int .u8 (Nib.rd s marked).c]) ∧ Below w.heap.size w w' := by
  by_cases hq : Nib.bt s 0 = 34
  · by_cases h1 : s.size = 1
    · exact read_one s marked w h0 hq h1
    · by_cases hsl : Nib.slotN (Nib.bt s 1) < 0
      · exact read_noreg s marked w h0 hq (by omega) hsl
      · by_cases hk : 0 < (Nib.num s 2).1
        · exact read_rp s marked w hs h0 hq (by omega) (by omega) hk
        · exact read_rn s marked w hs h0 hq (by omega) (by omega) hk
  · by_cases hk : 0 < (Nib.num s 0).1
    · exact read_np s marked w hs h0 hq hk
    · exact read_nn s marked w hs h0 hq hk
theorem key_esc (b : Nat) (e : Nib.Ed) (dv uv : Value) (w : World) (h : EdAt w b e dv uv) (hm : ¬ e.mode = 1) :
    Calls Tryz.prog 35 #[.pointer (some ⟨b, 0, none⟩), .int .u8 27] w fun r w' =>
      r = .returned (.int .i64 0) ∧ EdAt w' b { e with keys := ⟨#[]⟩, mode := 0 } dv uv ∧ Upd [b] w w' := by
  have H := h
  obtain ⟨_, _, _, c3, c4, _, _, _, _, _, _, _, _, _, _, _, _, _, fz, lt⟩ := h
  have hm' : (e.mode == 1) = false := by simp [hm]
  have HF := (H.set_keys ⟨#[]⟩).set_mode 0
  clear hm
  go_enter Tryz.func35, Tryz.ntmps35
  go_wp2
  go_ret
  refine ⟨rfl, ?_, ?_⟩
  · repeat (with_reducible first | exact HF | refine e_o ?_ _ | refine EdAt.alloc ?_ _ | refine EdAt.drewN ?_ _ | refine EdAt.drew ?_)
  · repeat (with_reducible first | exact Upd.refl _ _ | assumption | refine u_s ?_ _ | refine Upd.alloc ?_ _ | refine Upd.drewN ?_ _ | refine Upd.drew ?_)
theorem cell_set_blk {w : World} {n b o o' : Nat} {v : Value} (h : n ≠ b) : (w.setCell ⟨n, o, none⟩ v).cell? ⟨b, o', none⟩ = w.cell? ⟨b, o', none⟩ :=
  World.cell?_setCell_other (w := w) (a := ⟨n, o, none⟩) (b := ⟨b, o', none⟩) (v := v) (fun e => h (by injection e))
theorem conv_one (ww : World) (n : Nat) (u : UInt8) (h : ww.cell? ⟨n, 0, none⟩ = some (.int .u8 u.toNat)) :
    (convert 48 9 (.slice (some ⟨n, 0, none⟩) 1 1)).run Tryz.prog ww = .ok (.string ⟨#[u]⟩) ww := by
  rw [run_convert_bytes_string ww 48 9 5 _ _ _ (by kernel_rfl) (by kernel_rfl) (by kernel_rfl)]
  rw [run_bytesToString ww ⟨n, 0, none⟩ 1 1 [(u.toNat : Int)] (by simp [loadCells, go_sem, h])]
  simp
  rfl
theorem key_does (b : Nat) (e : Nib.Ed) (u : UInt8) (dv uv : Value) (w : World) (h : EdAt w b e dv uv) (hm : ¬ e.mode = 1) (hu : ¬ (u.toNat : Int) = 27) (hk : e.keys.size ≤ 17592186044416)
    (n : Int) (e2 : Nib.Ed) (hx : (Nib.rd (e.keys ++ ⟨#[u]⟩) (e.mode != 0)).more = false) (hx2 : (Nib.rd (e.keys ++ ⟨#[u]⟩) (e.mode != 0)).bad = false)
    (HD : ∀ ww, EdAt ww b { e with keys := ⟨#[]⟩ } dv uv → Calls Tryz.prog 44 #[.pointer (some ⟨b, 0, none⟩), .agg #[.bool (Nib.rd (e.keys ++ ⟨#[u]⟩) (e.mode != 0)).more, .bool (Nib.rd (e.keys ++ ⟨#[u]⟩) (e.mode != 0)).bad, .int .i64 (Nib.rd (e.keys ++ ⟨#[u]⟩) (e.mode != 0)).reg, .int .i64 (Nib.rd (e.keys ++ ⟨#[u]⟩) (e.mode != 0)).n, .bool (Nib.rd (e.keys ++ ⟨#[u]⟩) (e.mode != 0)).given, .int .u8 (Nib.rd (e.keys ++ ⟨#[u]⟩) (e.mode != 0)).verb, .bool (Nib.rd (e.keys ++ ⟨#[u]⟩) (e.mode != 0)).twice, .int .u8 (Nib.rd (e.keys ++ ⟨#[u]⟩) (e.mode != 0)).object, .bool (Nib.rd (e.keys ++ ⟨#[u]⟩) (e.mode != 0)).around, .int .u8 (Nib.rd (e.keys ++ ⟨#[u]⟩) (e.mode != 0)).way, .int .u8 (Nib.rd (e.keys ++ ⟨#[u]⟩) (e.mode != 0)).other, .int .u8 (Nib.rd (e.keys ++ ⟨#[u]⟩) (e.mode != 0)).c], .string (e.keys ++ ⟨#[u]⟩)] ww fun r w' => r = .returned (.int .i64 n) ∧ EdAt w' b e2 dv uv ∧ Upd [b] ww w') :
    Calls Tryz.prog 35 #[.pointer (some ⟨b, 0, none⟩), .int .u8 u.toNat] w fun r w' =>
      r = .returned (.int .i64 n) ∧ EdAt w' b e2 dv uv ∧ Upd [b] w w' := by
  have H := h
  obtain ⟨_, _, _, c3, c4, _, _, _, _, _, _, _, _, _, _, _, _, _, fz, lt⟩ := h
  have hm' : (e.mode == 1) = false := by simp [hm]
  have hu' : ((u.toNat : Int) == 27) = false := by simpa using hu
  clear hm hu
  have l1 : b < w.heap.size + 1 := by omega
  have hcv := fun ww => conv_one ww w.heap.size u
  have HRd : Hid (∀ ww, Calls Tryz.prog 43 #[.string (e.keys ++ ⟨#[u]⟩), .bool (e.mode != 0)] ww fun r w' => r = .returned (.agg #[.bool (Nib.rd (e.keys ++ ⟨#[u]⟩) (e.mode != 0)).more, .bool (Nib.rd (e.keys ++ ⟨#[u]⟩) (e.mode != 0)).bad, .int .i64 (Nib.rd (e.keys ++ ⟨#[u]⟩) (e.mode != 0)).reg, .int .i64 (Nib.rd (e.keys ++ ⟨#[u]⟩) (e.mode != 0)).n, .bool (Nib.rd (e.keys ++ ⟨#[u]⟩) (e.mode != 0)).given, .int .u8 (Nib.rd (e.keys ++ ⟨#[u]⟩) (e.mode != 0)).verb, .bool (Nib.rd (e.keys ++ ⟨#[u]⟩) (e.mode != 0)).twice, .int .u8 (Nib.rd (e.keys ++ ⟨#[u]⟩) (e.mode != 0)).object, .bool (Nib.rd (e.keys ++ ⟨#[u]⟩) (e.mode != 0)).around, .int .u8 (Nib.rd (e.keys ++ ⟨#[u]⟩) (e.mode != 0)).way, .int .u8 (Nib.rd (e.keys ++ ⟨#[u]⟩) (e.mode != 0)).other, .int .u8 (Nib.rd (e.keys ++ ⟨#[u]⟩) (e.mode != 0)).c]) ∧ Below ww.heap.size ww w') := by
    intro ww
    have hsz : (e.keys ++ (⟨#[u]⟩ : ByteArray)).size = e.keys.size + 1 := by rw [ByteArray.size_append]; rfl
    exact read_any _ _ ww (by omega) (by omega)
  have HF := H.set_keys (e.keys ++ ⟨#[u]⟩)
  have HD' : Hid (∀ ww, EdAt ww b { e with keys := ⟨#[]⟩ } dv uv → Calls Tryz.prog 44 #[.pointer (some ⟨b, 0, none⟩), .agg #[.bool (Nib.rd (e.keys ++ ⟨#[u]⟩) (e.mode != 0)).more, .bool (Nib.rd (e.keys ++ ⟨#[u]⟩) (e.mode != 0)).bad, .int .i64 (Nib.rd (e.keys ++ ⟨#[u]⟩) (e.mode != 0)).reg, .int .i64 (Nib.rd (e.keys ++ ⟨#[u]⟩) (e.mode != 0)).n, .bool (Nib.rd (e.keys ++ ⟨#[u]⟩) (e.mode != 0)).given, .int .u8 (Nib.rd (e.keys ++ ⟨#[u]⟩) (e.mode != 0)).verb, .bool (Nib.rd (e.keys ++ ⟨#[u]⟩) (e.mode != 0)).twice, .int .u8 (Nib.rd (e.keys ++ ⟨#[u]⟩) (e.mode != 0)).object, .bool (Nib.rd (e.keys ++ ⟨#[u]⟩) (e.mode != 0)).around, .int .u8 (Nib.rd (e.keys ++ ⟨#[u]⟩) (e.mode != 0)).way, .int .u8 (Nib.rd (e.keys ++ ⟨#[u]⟩) (e.mode != 0)).other, .int .u8 (Nib.rd (e.keys ++ ⟨#[u]⟩) (e.mode != 0)).c], .string (e.keys ++ ⟨#[u]⟩)] ww fun r w' => r = .returned (.int .i64 n) ∧ EdAt w' b e2 dv uv ∧ Upd [b] ww w') := HD
  clear HD
  go_enter Tryz.func35, Tryz.ntmps35
  go_wp2_with fail
  go_region
  generalize Nib.rd (e.keys ++ ⟨#[u]⟩) (e.mode != 0) = x at *
  have HMK : Hid (∃ mk, (e.mode != 0) = mk) := ⟨_, rfl⟩
  generalize hks : (e.keys ++ ⟨#[u]⟩ : ByteArray) = ks at *
  have HKS : Hid ((e.keys ++ ⟨#[u]⟩ : ByteArray) = ks) := hks
  clear hks
  have hh1 : EdAt (((w.setCell ⟨b, 4, none⟩ (.string ks)).alloc (.cells #[.int .u8 u.toNat] 5)).drew) b { e with keys := ks } dv uv := (HF.alloc _).drew
  have hu1 : Upd [b] w (((w.setCell ⟨b, 4, none⟩ (.string ks)).alloc (.cells #[.int .u8 u.toNat] 5)).drew) := by
    repeat (with_reducible first | exact Upd.refl _ _ | assumption | refine u_s ?_ _ | refine Upd.alloc ?_ _ | refine Upd.drewN ?_ _ | refine Upd.drew ?_)
  go_wp2_with fail
  clear hcv c3 c4 fz lt l1 HF H HMK
  generalize (((w.setCell ⟨b, 4, none⟩ (.string ks)).alloc (.cells #[.int .u8 u.toNat] 5)).drew) = W1 at *
  obtain ⟨_, _, _, c3, c4, _, _, _, _, _, _, _, _, _, _, _, _, _, fz, lt⟩ := id hh1
  have l1 : b < W1.heap.size + 1 := by omega
  have hd := HD'.out
  rw [hx, hx2] at hd
  have HD2 : Hid _ := hd
  clear hd HD'
  have lne : W1.heap.size ≠ b := by omega
  go_region_held3 (fun ww => ww.cell? ⟨b, 3, none⟩ = some (.int .i64 e.mode) ∧ ww.cell? ⟨b, 4, none⟩ = some (.string ks)) ((refine ⟨?_, ?_⟩ <;> (first | (go_simp; done) | (repeat (first | assumption | (with_reducible refine cell_later ((Below.refl _ _).alloc (Nat.le_refl _) _) ?_) | (with_reducible refine cell_later ((Below.refl _ _).drew) ?_) | (with_reducible refine cell_later h3 ?_) | (with_reducible refine (cell_set_blk lne).trans ?_)))))) ((go_at_call 43; refine Calls.mono (HRd.out _) ?_; rintro r w3 ⟨rfl, h3⟩; obtain ⟨hc3, hf3⟩ := bcell h3))
  · have hh3 := hh1.drew.below h3
    have hu3 := hu1.drew.below h3
    have HB := hh3.set_keys ⟨#[]⟩
    have c4' := hh3.c4
    have fz' := hh3.fz
    have lt' := hh3.lt
    have l5 : b < w3.heap.size + 1 := by omega
    go_wp2_with fail
    refine Calls.mono (HD2.out _ ?_) ?_
    · repeat (with_reducible first | exact HB | refine e_o ?_ _ | refine EdAt.alloc ?_ _ | refine EdAt.drewN ?_ _ | refine EdAt.drew ?_)
    rintro r w5 ⟨rfl, h5, hu5⟩
    go_wp2
    go_ret
    refine ⟨rfl, h5, Upd.trans ?_ hu5⟩
    refine Upd.trans hu3 ?_
    repeat (with_reducible first | exact Upd.refl _ _ | assumption | refine u_s ?_ _ | refine Upd.alloc ?_ _ | refine Upd.drewN ?_ _ | refine Upd.drew ?_)
  · have hh3 := ((hh1.alloc _).drew).below h3
    have hu3 := ((hu1.alloc _).drew).below h3
    have hw1 := hu1.size
    have hz3 := h3.size
    simp at hz3
    have h30 := fun o => hc3 W1.heap.size o (by simp)
    have f30 := fun o => hf3 W1.heap.size o (by simp)
    have k4 := hh3.c4
    have kf := hh3.fz
    have kl := hh3.lt
    have lne' : b ≠ W1.heap.size := by omega
    go_wp2_with fail
    refine Calls.mono (HD2.out _ ?_) ?_
    · refine EdAt.set_keys (e := { e with keys := ks }) ?_ ⟨#[]⟩
      repeat (with_reducible first | exact hh3 | refine e_o ?_ _ | refine EdAt.alloc ?_ _ | refine EdAt.drewN ?_ _ | refine EdAt.drew ?_)
    rintro r w5 ⟨rfl, h5, hu5⟩
    go_wp2
    go_ret
    refine ⟨rfl, h5, Upd.trans ?_ hu5⟩
    repeat (with_reducible first | exact Upd.refl _ _ | assumption | refine u_s ?_ _ | refine Upd.alloc ?_ _ | refine Upd.drewN ?_ _ | refine Upd.drew ?_)
theorem key_bad (b : Nat) (e : Nib.Ed) (u : UInt8) (dv uv : Value) (w : World) (h : EdAt w b e dv uv) (hm : ¬ e.mode = 1) (hu : ¬ (u.toNat : Int) = 27) (hk : e.keys.size ≤ 17592186044416)
    (hx : (Nib.rd (e.keys ++ ⟨#[u]⟩) (e.mode != 0)).more = false) (hx2 : (Nib.rd (e.keys ++ ⟨#[u]⟩) (e.mode != 0)).bad = true) :
    Calls Tryz.prog 35 #[.pointer (some ⟨b, 0, none⟩), .int .u8 u.toNat] w fun r w' =>
      r = .returned (.int .i64 1) ∧ EdAt w' b { e with keys := ⟨#[]⟩ } dv uv ∧ Upd [b] w w' := by
  have H := h
  obtain ⟨_, _, _, c3, c4, _, _, _, _, _, _, _, _, _, _, _, _, _, fz, lt⟩ := h
  have hm' : (e.mode == 1) = false := by simp [hm]
  have hu' : ((u.toNat : Int) == 27) = false := by simpa using hu
  clear hm hu
  have l1 : b < w.heap.size + 1 := by omega
  have hcv := fun ww => conv_one ww w.heap.size u
  have HRd : Hid (∀ ww, Calls Tryz.prog 43 #[.string (e.keys ++ ⟨#[u]⟩), .bool (e.mode != 0)] ww fun r w' => r = .returned (.agg #[.bool (Nib.rd (e.keys ++ ⟨#[u]⟩) (e.mode != 0)).more, .bool (Nib.rd (e.keys ++ ⟨#[u]⟩) (e.mode != 0)).bad, .int .i64 (Nib.rd (e.keys ++ ⟨#[u]⟩) (e.mode != 0)).reg, .int .i64 (Nib.rd (e.keys ++ ⟨#[u]⟩) (e.mode != 0)).n, .bool (Nib.rd (e.keys ++ ⟨#[u]⟩) (e.mode != 0)).given, .int .u8 (Nib.rd (e.keys ++ ⟨#[u]⟩) (e.mode != 0)).verb, .bool (Nib.rd (e.keys ++ ⟨#[u]⟩) (e.mode != 0)).twice, .int .u8 (Nib.rd (e.keys ++ ⟨#[u]⟩) (e.mode != 0)).object, .bool (Nib.rd (e.keys ++ ⟨#[u]⟩) (e.mode != 0)).around, .int .u8 (Nib.rd (e.keys ++ ⟨#[u]⟩) (e.mode != 0)).way, .int .u8 (Nib.rd (e.keys ++ ⟨#[u]⟩) (e.mode != 0)).other, .int .u8 (Nib.rd (e.keys ++ ⟨#[u]⟩) (e.mode != 0)).c]) ∧ Below ww.heap.size ww w') := by
    intro ww
    have hsz : (e.keys ++ (⟨#[u]⟩ : ByteArray)).size = e.keys.size + 1 := by rw [ByteArray.size_append]; rfl
    exact read_any _ _ ww (by omega) (by omega)
  have HF := H.set_keys (e.keys ++ ⟨#[u]⟩)
  go_enter Tryz.func35, Tryz.ntmps35
  go_wp2_with fail
  go_region
  generalize Nib.rd (e.keys ++ ⟨#[u]⟩) (e.mode != 0) = x at *
  have HMK : Hid (∃ mk, (e.mode != 0) = mk) := ⟨_, rfl⟩
  generalize hks : (e.keys ++ ⟨#[u]⟩ : ByteArray) = ks at *
  have HKS : Hid ((e.keys ++ ⟨#[u]⟩ : ByteArray) = ks) := hks
  clear hks
  have hh1 : EdAt (((w.setCell ⟨b, 4, none⟩ (.string ks)).alloc (.cells #[.int .u8 u.toNat] 5)).drew) b { e with keys := ks } dv uv := (HF.alloc _).drew
  have hu1 : Upd [b] w (((w.setCell ⟨b, 4, none⟩ (.string ks)).alloc (.cells #[.int .u8 u.toNat] 5)).drew) := by
    repeat (with_reducible first | exact Upd.refl _ _ | assumption | refine u_s ?_ _ | refine Upd.alloc ?_ _ | refine Upd.drewN ?_ _ | refine Upd.drew ?_)
  go_wp2_with fail
  clear hcv c3 c4 fz lt l1 HF H HMK
  generalize (((w.setCell ⟨b, 4, none⟩ (.string ks)).alloc (.cells #[.int .u8 u.toNat] 5)).drew) = W1 at *
  obtain ⟨_, _, _, c3, c4, _, _, _, _, _, _, _, _, _, _, _, _, _, fz, lt⟩ := id hh1
  have l1 : b < W1.heap.size + 1 := by omega
  have lne : W1.heap.size ≠ b := by omega
  go_region_held3 (fun ww => ww.cell? ⟨b, 3, none⟩ = some (.int .i64 e.mode) ∧ ww.cell? ⟨b, 4, none⟩ = some (.string ks)) ((refine ⟨?_, ?_⟩ <;> (first | (go_simp; done) | (repeat (first | assumption | (with_reducible refine cell_later ((Below.refl _ _).alloc (Nat.le_refl _) _) ?_) | (with_reducible refine cell_later ((Below.refl _ _).drew) ?_) | (with_reducible refine cell_later h3 ?_) | (with_reducible refine (cell_set_blk lne).trans ?_)))))) ((go_at_call 43; refine Calls.mono (HRd.out _) ?_; rintro r w3 ⟨rfl, h3⟩; obtain ⟨hc3, hf3⟩ := bcell h3))
  · have hh3 := hh1.drew.below h3
    have hu3 := hu1.drew.below h3
    have HB := hh3.set_keys ⟨#[]⟩
    have c4' := hh3.c4
    have fz' := hh3.fz
    have lt' := hh3.lt
    have l5 : b < w3.heap.size + 1 := by omega
    go_wp2
    go_ret
    refine ⟨rfl, ?_, ?_⟩
    · repeat (with_reducible first | exact HB | refine e_o ?_ _ | refine EdAt.alloc ?_ _ | refine EdAt.drewN ?_ _ | refine EdAt.drew ?_)
    · refine Upd.trans hu3 ?_
      repeat (with_reducible first | exact Upd.refl _ _ | assumption | refine u_s ?_ _ | refine Upd.alloc ?_ _ | refine Upd.drewN ?_ _ | refine Upd.drew ?_)
  · have hh3 := ((hh1.alloc _).drew).below h3
    have hu3 := ((hu1.alloc _).drew).below h3
    have hw1 := hu1.size
    have hz3 := h3.size
    simp at hz3
    have h30 := fun o => hc3 W1.heap.size o (by simp)
    have f30 := fun o => hf3 W1.heap.size o (by simp)
    have k4 := hh3.c4
    have kf := hh3.fz
    have kl := hh3.lt
    have lne' : b ≠ W1.heap.size := by omega
    go_wp2
    go_ret
    refine ⟨rfl, ?_, ?_⟩
    · refine EdAt.set_keys (e := { e with keys := ks }) ?_ ⟨#[]⟩
      repeat (with_reducible first | exact hh3 | refine e_o ?_ _ | refine EdAt.alloc ?_ _ | refine EdAt.drewN ?_ _ | refine EdAt.drew ?_)
    · repeat (with_reducible first | exact Upd.refl _ _ | assumption | refine u_s ?_ _ | refine Upd.alloc ?_ _ | refine Upd.drewN ?_ _ | refine Upd.drew ?_)
theorem key_more (b : Nat) (e : Nib.Ed) (u : UInt8) (dv uv : Value) (w : World) (h : EdAt w b e dv uv) (hm : ¬ e.mode = 1) (hu : ¬ (u.toNat : Int) = 27) (hk : e.keys.size ≤ 17592186044416)
    (hx : (Nib.rd (e.keys ++ ⟨#[u]⟩) (e.mode != 0)).more = true) :
    Calls Tryz.prog 35 #[.pointer (some ⟨b, 0, none⟩), .int .u8 u.toNat] w fun r w' =>
      r = .returned (.int .i64 0) ∧ EdAt w' b { e with keys := e.keys ++ ⟨#[u]⟩ } dv uv ∧ Upd [b] w w' := by
  have H := h
  obtain ⟨_, _, _, c3, c4, _, _, _, _, _, _, _, _, _, _, _, _, _, fz, lt⟩ := h
  have hm' : (e.mode == 1) = false := by simp [hm]
  have hu' : ((u.toNat : Int) == 27) = false := by simpa using hu
  clear hm hu
  have l1 : b < w.heap.size + 1 := by omega
  have hcv := fun ww => conv_one ww w.heap.size u
  have HRd : Hid (∀ ww, Calls Tryz.prog 43 #[.string (e.keys ++ ⟨#[u]⟩), .bool (e.mode != 0)] ww fun r w' => r = .returned (.agg #[.bool (Nib.rd (e.keys ++ ⟨#[u]⟩) (e.mode != 0)).more, .bool (Nib.rd (e.keys ++ ⟨#[u]⟩) (e.mode != 0)).bad, .int .i64 (Nib.rd (e.keys ++ ⟨#[u]⟩) (e.mode != 0)).reg, .int .i64 (Nib.rd (e.keys ++ ⟨#[u]⟩) (e.mode != 0)).n, .bool (Nib.rd (e.keys ++ ⟨#[u]⟩) (e.mode != 0)).given, .int .u8 (Nib.rd (e.keys ++ ⟨#[u]⟩) (e.mode != 0)).verb, .bool (Nib.rd (e.keys ++ ⟨#[u]⟩) (e.mode != 0)).twice, .int .u8 (Nib.rd (e.keys ++ ⟨#[u]⟩) (e.mode != 0)).object, .bool (Nib.rd (e.keys ++ ⟨#[u]⟩) (e.mode != 0)).around, .int .u8 (Nib.rd (e.keys ++ ⟨#[u]⟩) (e.mode != 0)).way, .int .u8 (Nib.rd (e.keys ++ ⟨#[u]⟩) (e.mode != 0)).other, .int .u8 (Nib.rd (e.keys ++ ⟨#[u]⟩) (e.mode != 0)).c]) ∧ Below ww.heap.size ww w') := by
    intro ww
    have hsz : (e.keys ++ (⟨#[u]⟩ : ByteArray)).size = e.keys.size + 1 := by rw [ByteArray.size_append]; rfl
    exact read_any _ _ ww (by omega) (by omega)
  have HF := H.set_keys (e.keys ++ ⟨#[u]⟩)
  go_enter Tryz.func35, Tryz.ntmps35
  go_wp2_with fail
  go_region
  generalize Nib.rd (e.keys ++ ⟨#[u]⟩) (e.mode != 0) = x at *
  have HMK : Hid (∃ mk, (e.mode != 0) = mk) := ⟨_, rfl⟩
  generalize hks : (e.keys ++ ⟨#[u]⟩ : ByteArray) = ks at *
  have HKS : Hid ((e.keys ++ ⟨#[u]⟩ : ByteArray) = ks) := hks
  clear hks
  have hh1 : EdAt (((w.setCell ⟨b, 4, none⟩ (.string ks)).alloc (.cells #[.int .u8 u.toNat] 5)).drew) b { e with keys := ks } dv uv := (HF.alloc _).drew
  have hu1 : Upd [b] w (((w.setCell ⟨b, 4, none⟩ (.string ks)).alloc (.cells #[.int .u8 u.toNat] 5)).drew) := by
    repeat (with_reducible first | exact Upd.refl _ _ | assumption | refine u_s ?_ _ | refine Upd.alloc ?_ _ | refine Upd.drewN ?_ _ | refine Upd.drew ?_)
  go_wp2_with fail
  clear hcv c3 c4 fz lt l1 HF H HMK
  generalize (((w.setCell ⟨b, 4, none⟩ (.string ks)).alloc (.cells #[.int .u8 u.toNat] 5)).drew) = W1 at *
  obtain ⟨_, _, _, c3, c4, _, _, _, _, _, _, _, _, _, _, _, _, _, fz, lt⟩ := id hh1
  have l1 : b < W1.heap.size + 1 := by omega
  have lne : W1.heap.size ≠ b := by omega
  go_region_held3 (fun ww => ww.cell? ⟨b, 3, none⟩ = some (.int .i64 e.mode) ∧ ww.cell? ⟨b, 4, none⟩ = some (.string ks)) ((refine ⟨?_, ?_⟩ <;> (first | (go_simp; done) | (repeat (first | assumption | (with_reducible refine cell_later ((Below.refl _ _).alloc (Nat.le_refl _) _) ?_) | (with_reducible refine cell_later ((Below.refl _ _).drew) ?_) | (with_reducible refine cell_later h3 ?_) | (with_reducible refine (cell_set_blk lne).trans ?_)))))) ((go_at_call 43; refine Calls.mono (HRd.out _) ?_; rintro r w3 ⟨rfl, h3⟩; obtain ⟨hc3, hf3⟩ := bcell h3))
  · have hh3 := hh1.drew.below h3
    have hu3 := hu1.drew.below h3
    go_wp2
    go_ret
    refine ⟨rfl, ?_, ?_⟩
    · rw [HKS.out]
      repeat (with_reducible first | exact hh3 | refine e_o ?_ _ | refine EdAt.alloc ?_ _ | refine EdAt.drewN ?_ _ | refine EdAt.drew ?_)
    · refine Upd.trans hu3 ?_
      repeat (with_reducible first | exact Upd.refl _ _ | assumption | refine u_s ?_ _ | refine Upd.alloc ?_ _ | refine Upd.drewN ?_ _ | refine Upd.drew ?_)
  · have hh3 := ((hh1.alloc _).drew).below h3
    have hu3 := ((hu1.alloc _).drew).below h3
    have hw1 := hu1.size
    have hz3 := h3.size
    simp at hz3
    have h30 := fun o => hc3 W1.heap.size o (by simp)
    have f30 := fun o => hf3 W1.heap.size o (by simp)
    go_wp2
    go_ret
    refine ⟨rfl, ?_, ?_⟩
    · rw [HKS.out]
      repeat (with_reducible first | exact hh3 | refine e_o ?_ _ | refine EdAt.alloc ?_ _ | refine EdAt.drewN ?_ _ | refine EdAt.drew ?_)
    · repeat (with_reducible first | exact Upd.refl _ _ | assumption | refine u_s ?_ _ | refine Upd.alloc ?_ _ | refine Upd.drewN ?_ _ | refine Upd.drew ?_)
def sumTo (f : Nat → Nat) : Nat → Nat
  | 0 => 0
  | k + 1 => sumTo f k + f k
theorem sumTo_le {f : Nat → Nat} (h : ∀ k, f k ≤ 1) (k : Nat) : sumTo f k ≤ k := by
  induction k with
  | zero => exact Nat.le_refl _
  | succ k ih => have := h k; simp only [sumTo]; omega
theorem refType_any (b : Nat) (s : ByteArray) (st : Nat → Nib.Ed) (f : Nat → Nat) (dv uv : Nat → Value) (w : World) (h : EdAt w b (st 0) (dv 0) (uv 0)) (hs : s.size ≤ 35184372088832) (hf : ∀ k, f k ≤ 1)
    (HK : ∀ k, (hk : k < s.size) → ∀ ww, EdAt ww b (st k) (dv k) (uv k) → Calls Tryz.prog 35 #[.pointer (some ⟨b, 0, none⟩), .int .u8 (s[k]'hk).toNat] ww fun r w' =>
      r = .returned (.int .i64 (f k)) ∧ EdAt w' b (st (k + 1)) (dv (k + 1)) (uv (k + 1)) ∧ Upd [b] ww w') :
    Calls Tryz.prog 28 #[.pointer (some ⟨b, 0, none⟩), .string s] w fun r w' =>
      r = .returned (.int .i64 (sumTo f s.size)) ∧ EdAt w' b (st s.size) (dv s.size) (uv s.size) ∧ Upd [b] w w' := by
  have HK' : Hid (∀ k, (hk : k < s.size) → ∀ ww, EdAt ww b (st k) (dv k) (uv k) → Calls Tryz.prog 35 #[.pointer (some ⟨b, 0, none⟩), .int .u8 (s[k]'hk).toNat] ww fun r w' =>
      r = .returned (.int .i64 (f k)) ∧ EdAt w' b (st (k + 1)) (dv (k + 1)) (uv (k + 1)) ∧ Upd [b] ww w') := HK
  have HF : Hid (∀ k, f k ≤ 1) := hf
  clear HK hf
  go_enter Tryz.func28, Tryz.ntmps28
  go_wp2
  go_loopw [5, 6] (fun n i wr => ∃ k : Nat, k ≤ s.size ∧ i = .int .i64 k ∧ n = .int .i64 (sumTo f k) ∧ EdAt wr b (st k) (dv k) (uv k) ∧ Upd [b] w wr) (fun _ i _ => s.size - (intOf i).toNat)
  case atStart => exact ⟨0, Nat.zero_le _, rfl, rfl, h, Upd.refl _ _⟩
  case round =>
    obtain ⟨k, hk, rfl, rfl, he, hu⟩ := hrel
    have hsl := sumTo_le HF.out k
    have hf1 := HF.out k
    by_cases hlt : k < s.size
    · have HS : Hid (sumTo f (k + 1) = sumTo f k + f k) := rfl
      go_wp2_with fail
      refine Calls.mono (HK'.out k hlt _ he) ?_
      rintro r w1 ⟨rfl, h1, hu1⟩
      go_wp2
      go_roundw
      case rel => exact ⟨k + 1, by omega, by go_num, by rw [HS.out]; go_num, h1, hu.trans hu1⟩
      case measure => simp [intOf] <;> omega
    · have hkn : k = s.size := by omega
      subst hkn
      go_wp2
      go_ret
      exact ⟨rfl, he, hu⟩
end Go.Proofs.YtlendfhehhacpaaGreat
