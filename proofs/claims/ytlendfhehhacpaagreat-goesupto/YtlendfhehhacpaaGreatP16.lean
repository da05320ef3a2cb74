/- Joined of the texts WalkN, WalkJ. -/
import Derived.Test.YtlendfhehhacpaaGreatP14
import Derived.Test.YtlendfhehhacpaaGreatP15
import Derived.Test.YtlendfhehhacpaaGreatP02
import Derived.Test.YtlendfhehhacpaaGreatP05
import Derived.Test.YtlendfhehhacpaaGreatP01
import Derived.Lib.Bytes
set_option linter.unusedVariables false
set_option linter.unusedSimpArgs false
set_option maxRecDepth 100000
set_option maxHeartbeats 8000000
namespace Go.Proofs.YtlendfhehhacpaaGreat
open Go.RowKit
theorem go_any (s : ByteArray) (p n : Nat) (key c : Int) (given v b : Bool) (w : World) (hs : s.size ≤ 1000) (hp : p ≤ s.size) (hn1 : 1 ≤ n) (hn : n ≤ 99) (hk : Nib.isWay key = true) :
    Calls Tryz.prog 109 #[.string s, .int .i64 p, .agg #[.int .u8 key, .int .u8 c, .int .i64 n, .bool given, .bool v, .bool b]] w fun e w' =>
      e = .returned (.agg #[.int .i64 (Nib.goWay s p key c n given v b).1, .int .i64 (Nib.goWay s p key c n given v b).2.1, .bool (Nib.goWay s p key c n given v b).2.2]) ∧ Below w.heap.size w w' := by
  simp only [Nib.isWay, Bool.or_eq_true, beq_iff_eq] at hk
  rcases hk with ((((((((((((((((((((h | h) | h) | h) | h) | h) | h) | h) | h) | h) | h) | h) | h) | h) | h) | h) | h) | h) | h) | h) | h) | h
  all_goals subst h
  · exact go_h s p n c given v b w hs hp hn1 hn
  · exact go_l s p n c given v b w hs hp hn1 hn
  · exact go_0 s p n c given v b w hs hp hn1 hn
  · exact go_hat s p n c given v b w hs hp hn1 hn
  · exact go_eol s p n c given v b w hs hp hn1 hn
  · exact go_j s p n c given v b w hs hp hn1 hn
  · exact go_k s p n c given v b w hs hp hn1 hn
  · exact go_G s p n c given v b w hs hp hn1 hn
  · exact go_gg s p n c given v b w hs hp hn1 hn
  · exact go_w s p n c given v b w hs hp hn1 hn
  · exact go_W s p n c given v b w hs hp hn1 hn
  · exact go_b s p n c given v b w hs hp hn1 hn
  · exact go_B s p n c given v b w hs hp hn1 hn
  · exact go_e s p n c given v b w hs hp hn1 hn
  · exact go_E s p n c given v b w hs hp hn1 hn
  · exact go_f s p n c given v b w hs hp hn1 hn
  · exact go_t s p n c given v b w hs hp hn1 hn
  · exact go_F s p n c given v b w hs hp hn1 hn
  · exact go_T s p n c given v b w hs hp hn1 hn
  · exact go_parD s p n c given v b w hs hp hn1 hn
  · exact go_parU s p n c given v b w hs hp hn1 hn
  · exact go_pair s p n c given v b w hs hp hn1 hn
structure EdAt (w : World) (b : Nat) (e : Nib.Ed) (dv uv : Value) : Prop where
  c0 : w.cell? ⟨b, 0, none⟩ = some (.string e.t)
  c1 : w.cell? ⟨b, 1, none⟩ = some (.int .i64 e.p)
  c2 : w.cell? ⟨b, 2, none⟩ = some (.int .i64 e.anchor)
  c3 : w.cell? ⟨b, 3, none⟩ = some (.int .i64 e.mode)
  c4 : w.cell? ⟨b, 4, none⟩ = some (.string e.keys)
  cS : ∀ i, i < 27 → w.cell? ⟨b, 5 + i * 2, none⟩ = some (.string (e.regS i))
  cL : ∀ i, i < 27 → w.cell? ⟨b, 5 + i * 2 + 1, none⟩ = some (.bool (e.regL i))
  c59 : w.cell? ⟨b, 59, none⟩ = some (.int .u8 e.find)
  c60 : w.cell? ⟨b, 60, none⟩ = some (.int .u8 e.findC)
  c61 : w.cell? ⟨b, 61, none⟩ = some dv
  c62 : w.cell? ⟨b, 62, none⟩ = some uv
  c63 : w.cell? ⟨b, 63, none⟩ = some (.string e.command)
  c64 : w.cell? ⟨b, 64, none⟩ = some (.string e.written)
  c65 : w.cell? ⟨b, 65, none⟩ = some (.bool e.has)
  c66 : w.cell? ⟨b, 66, none⟩ = some (.string e.before)
  c67 : w.cell? ⟨b, 67, none⟩ = some (.string e.typed)
  c68 : w.cell? ⟨b, 68, none⟩ = some (.string e.doing)
  c69 : w.cell? ⟨b, 69, none⟩ = some (.bool e.isDoing)
  fz : ∀ o, w.frozen? ⟨b, o, none⟩ = false
  lt : b < w.heap.size
theorem EdAt.of_block {w w' : World} {b : Nat} {e : Nib.Ed} {dv uv : Value} (h : EdAt w b e dv uv) (hb : w'.heap[b]? = w.heap[b]?) (hz : w.heap.size ≤ w'.heap.size) : EdAt w' b e dv uv := by
  have hc : ∀ o, w'.cell? ⟨b, o, none⟩ = w.cell? ⟨b, o, none⟩ := fun o => World.cell?_of_block (w := w) hb
  have hf : ∀ o, w'.frozen? ⟨b, o, none⟩ = w.frozen? ⟨b, o, none⟩ := fun o => World.frozen?_of_block (w := w) hb
  exact ⟨(hc _).trans h.c0, (hc _).trans h.c1, (hc _).trans h.c2, (hc _).trans h.c3, (hc _).trans h.c4, fun i hi => (hc _).trans (h.cS i hi), fun i hi => (hc _).trans (h.cL i hi), (hc _).trans h.c59, (hc _).trans h.c60, (hc _).trans h.c61, (hc _).trans h.c62, (hc _).trans h.c63, (hc _).trans h.c64, (hc _).trans h.c65, (hc _).trans h.c66, (hc _).trans h.c67, (hc _).trans h.c68, (hc _).trans h.c69, fun o => (hf o).trans (h.fz o), Nat.lt_of_lt_of_le h.lt hz⟩
theorem EdAt.below {w w' : World} {b : Nat} {e : Nib.Ed} {dv uv : Value} (h : EdAt w b e dv uv) (hb : Below w.heap.size w w') : EdAt w' b e dv uv := h.of_block (hb.block b h.lt) hb.size
theorem EdAt.alloc {w : World} {b : Nat} {e : Nib.Ed} {dv uv : Value} (h : EdAt w b e dv uv) (o : Obj) : EdAt (w.alloc o) b e dv uv := h.below ((Below.refl _ _).alloc (Nat.le_refl _) _)
theorem EdAt.drewN {w : World} {b : Nat} {e : Nib.Ed} {dv uv : Value} (h : EdAt w b e dv uv) (n : Nat) : EdAt (w.drewN n) b e dv uv := h.below (below_drewN (Below.refl _ _) _)
theorem EdAt.drew {w : World} {b : Nat} {e : Nib.Ed} {dv uv : Value} (h : EdAt w b e dv uv) : EdAt w.drew b e dv uv := h.below (Below.refl _ _).drew
theorem EdAt.upd {S : List Nat} {w w' : World} {b : Nat} {e : Nib.Ed} {dv uv : Value} (h : EdAt w b e dv uv) (hu : Upd S w w') (hn : b ∉ S) : EdAt w' b e dv uv := h.of_block (hu.block b h.lt hn) hu.size
theorem EdAt.other {w : World} {b : Nat} {e : Nib.Ed} {dv uv : Value} (h : EdAt w b e dv uv) {p : Addr} (hp : b ≠ p.block) (u : Value) : EdAt (w.setCell p u) b e dv uv :=
  h.of_block (Below.heap_setCell _ _ _ _ hp) (by simp [World.setCell])
theorem EdAt.set_p {w : World} {b : Nat} {e : Nib.Ed} {dv uv : Value} (h : EdAt w b e dv uv) (x : Nat) : EdAt (w.setCell ⟨b, 1, none⟩ (.int .i64 (x : Nat))) b { e with p := x } dv uv :=
  ⟨(cell_set_off (by decide)).trans h.c0, cell_set_same h.c1, (cell_set_off (by decide)).trans h.c2, (cell_set_off (by decide)).trans h.c3, (cell_set_off (by decide)).trans h.c4, fun i hi => (cell_set_off (by omega)).trans (h.cS i hi), fun i hi => (cell_set_off (by omega)).trans (h.cL i hi), (cell_set_off (by decide)).trans h.c59, (cell_set_off (by decide)).trans h.c60, (cell_set_off (by decide)).trans h.c61, (cell_set_off (by decide)).trans h.c62, (cell_set_off (by decide)).trans h.c63, (cell_set_off (by decide)).trans h.c64, (cell_set_off (by decide)).trans h.c65, (cell_set_off (by decide)).trans h.c66, (cell_set_off (by decide)).trans h.c67, (cell_set_off (by decide)).trans h.c68, (cell_set_off (by decide)).trans h.c69, fun o => by rw [World.frozen?_setCell]; exact h.fz o, by simp [World.setCell]; exact h.lt⟩
theorem EdAt.set_anchor {w : World} {b : Nat} {e : Nib.Ed} {dv uv : Value} (h : EdAt w b e dv uv) (x : Nat) : EdAt (w.setCell ⟨b, 2, none⟩ (.int .i64 (x : Nat))) b { e with anchor := x } dv uv :=
  ⟨(cell_set_off (by decide)).trans h.c0, (cell_set_off (by decide)).trans h.c1, cell_set_same h.c2, (cell_set_off (by decide)).trans h.c3, (cell_set_off (by decide)).trans h.c4, fun i hi => (cell_set_off (by omega)).trans (h.cS i hi), fun i hi => (cell_set_off (by omega)).trans (h.cL i hi), (cell_set_off (by decide)).trans h.c59, (cell_set_off (by decide)).trans h.c60, (cell_set_off (by decide)).trans h.c61, (cell_set_off (by decide)).trans h.c62, (cell_set_off (by decide)).trans h.c63, (cell_set_off (by decide)).trans h.c64, (cell_set_off (by decide)).trans h.c65, (cell_set_off (by decide)).trans h.c66, (cell_set_off (by decide)).trans h.c67, (cell_set_off (by decide)).trans h.c68, (cell_set_off (by decide)).trans h.c69, fun o => by rw [World.frozen?_setCell]; exact h.fz o, by simp [World.setCell]; exact h.lt⟩
theorem EdAt.set_mode {w : World} {b : Nat} {e : Nib.Ed} {dv uv : Value} (h : EdAt w b e dv uv) (x : Int) : EdAt (w.setCell ⟨b, 3, none⟩ (.int .i64 x)) b { e with mode := x } dv uv :=
  ⟨(cell_set_off (by decide)).trans h.c0, (cell_set_off (by decide)).trans h.c1, (cell_set_off (by decide)).trans h.c2, cell_set_same h.c3, (cell_set_off (by decide)).trans h.c4, fun i hi => (cell_set_off (by omega)).trans (h.cS i hi), fun i hi => (cell_set_off (by omega)).trans (h.cL i hi), (cell_set_off (by decide)).trans h.c59, (cell_set_off (by decide)).trans h.c60, (cell_set_off (by decide)).trans h.c61, (cell_set_off (by decide)).trans h.c62, (cell_set_off (by decide)).trans h.c63, (cell_set_off (by decide)).trans h.c64, (cell_set_off (by decide)).trans h.c65, (cell_set_off (by decide)).trans h.c66, (cell_set_off (by decide)).trans h.c67, (cell_set_off (by decide)).trans h.c68, (cell_set_off (by decide)).trans h.c69, fun o => by rw [World.frozen?_setCell]; exact h.fz o, by simp [World.setCell]; exact h.lt⟩
theorem EdAt.set_keys {w : World} {b : Nat} {e : Nib.Ed} {dv uv : Value} (h : EdAt w b e dv uv) (x : ByteArray) : EdAt (w.setCell ⟨b, 4, none⟩ (.string x)) b { e with keys := x } dv uv :=
  ⟨(cell_set_off (by decide)).trans h.c0, (cell_set_off (by decide)).trans h.c1, (cell_set_off (by decide)).trans h.c2, (cell_set_off (by decide)).trans h.c3, cell_set_same h.c4, fun i hi => (cell_set_off (by omega)).trans (h.cS i hi), fun i hi => (cell_set_off (by omega)).trans (h.cL i hi), (cell_set_off (by decide)).trans h.c59, (cell_set_off (by decide)).trans h.c60, (cell_set_off (by decide)).trans h.c61, (cell_set_off (by decide)).trans h.c62, (cell_set_off (by decide)).trans h.c63, (cell_set_off (by decide)).trans h.c64, (cell_set_off (by decide)).trans h.c65, (cell_set_off (by decide)).trans h.c66, (cell_set_off (by decide)).trans h.c67, (cell_set_off (by decide)).trans h.c68, (cell_set_off (by decide)).trans h.c69, fun o => by rw [World.frozen?_setCell]; exact h.fz o, by simp [World.setCell]; exact h.lt⟩
theorem EdAt.set_find {w : World} {b : Nat} {e : Nib.Ed} {dv uv : Value} (h : EdAt w b e dv uv) (x : Int) : EdAt (w.setCell ⟨b, 59, none⟩ (.int .u8 x)) b { e with find := x } dv uv :=
  ⟨(cell_set_off (by decide)).trans h.c0, (cell_set_off (by decide)).trans h.c1, (cell_set_off (by decide)).trans h.c2, (cell_set_off (by decide)).trans h.c3, (cell_set_off (by decide)).trans h.c4, fun i hi => (cell_set_off (by omega)).trans (h.cS i hi), fun i hi => (cell_set_off (by omega)).trans (h.cL i hi), cell_set_same h.c59, (cell_set_off (by decide)).trans h.c60, (cell_set_off (by decide)).trans h.c61, (cell_set_off (by decide)).trans h.c62, (cell_set_off (by decide)).trans h.c63, (cell_set_off (by decide)).trans h.c64, (cell_set_off (by decide)).trans h.c65, (cell_set_off (by decide)).trans h.c66, (cell_set_off (by decide)).trans h.c67, (cell_set_off (by decide)).trans h.c68, (cell_set_off (by decide)).trans h.c69, fun o => by rw [World.frozen?_setCell]; exact h.fz o, by simp [World.setCell]; exact h.lt⟩
theorem EdAt.set_findC {w : World} {b : Nat} {e : Nib.Ed} {dv uv : Value} (h : EdAt w b e dv uv) (x : Int) : EdAt (w.setCell ⟨b, 60, none⟩ (.int .u8 x)) b { e with findC := x } dv uv :=
  ⟨(cell_set_off (by decide)).trans h.c0, (cell_set_off (by decide)).trans h.c1, (cell_set_off (by decide)).trans h.c2, (cell_set_off (by decide)).trans h.c3, (cell_set_off (by decide)).trans h.c4, fun i hi => (cell_set_off (by omega)).trans (h.cS i hi), fun i hi => (cell_set_off (by omega)).trans (h.cL i hi), (cell_set_off (by decide)).trans h.c59, cell_set_same h.c60, (cell_set_off (by decide)).trans h.c61, (cell_set_off (by decide)).trans h.c62, (cell_set_off (by decide)).trans h.c63, (cell_set_off (by decide)).trans h.c64, (cell_set_off (by decide)).trans h.c65, (cell_set_off (by decide)).trans h.c66, (cell_set_off (by decide)).trans h.c67, (cell_set_off (by decide)).trans h.c68, (cell_set_off (by decide)).trans h.c69, fun o => by rw [World.frozen?_setCell]; exact h.fz o, by simp [World.setCell]; exact h.lt⟩
theorem e_o {w : World} {b : Nat} {e : Nib.Ed} {dv uv : Value} (h : EdAt w b e dv uv) {p : Addr} (u : Value) (hp : b ≠ p.block := by first | omega | (simp <;> omega)) : EdAt (w.setCell p u) b e dv uv := h.other hp u
theorem in_any (s : ByteArray) (c : Int) (w : World) (hs : s.size ≤ 1000) :
    Calls Tryz.prog 57 #[.string s, .int .u8 c] w fun e w' => e = .returned (.bool (Nib.mem s c)) ∧ w' = w := by
  generalize hx : Nib.mem s c = x
  have HX : Hid (x = decide (Nib.up (fun i => Nib.bt s i != c) s.size 0 < s.size)) := by rw [Hid, ← hx]; rfl
  clear hx
  generalize hu : Nib.up (fun i => Nib.bt s i != c) s.size 0 = u at HX
  have HU : Hid (Nib.up (fun i => Nib.bt s i != c) s.size 0 = u) := hu
  clear hu
  go_enter Tryz.func57, Tryz.ntmps57
  go_wp2
  go_loop [5] (fun i => ∃ k : Nat, k ≤ s.size ∧ i = .int .i64 k ∧ Hid (Nib.up (fun i => Nib.bt s i != c) s.size k = u)) (fun i => s.size - (intOf i).toNat)
  case atStart => exact ⟨0, by omega, rfl, HU⟩
  case round =>
    clear HU
    obtain ⟨k, hk, rfl, hu⟩ := hrel
    by_cases hlt : k < s.size
    · by_cases hc : Nib.bt s k = c
      · have HK : Hid (x = true) := by
          have e : k = u := by rw [← hu.out, Nib.up_stop]; simp [hc]
          rw [Hid, HX.out, ← e]; simp [hlt]
        have hc' : (((s[k]'hlt).toNat : Int) == c) = true := by rw [← Nib.bt_in hlt]; simp [hc]
        clear hu hc HX
        go_wp2
        go_ret
        exact ⟨ret_bool (by rw [HK.out]), rfl⟩
      · have HS : Hid (Nib.up (fun i => Nib.bt s i != c) s.size (k + 1) = u) := by rw [Hid, ← hu.out, Nib.up_step hlt]; simp [hc]
        have hc' : (((s[k]'hlt).toNat : Int) == c) = false := by rw [← Nib.bt_in hlt]; simp [hc]
        clear hu hc
        go_wp2
        go_round
        case rel => exact ⟨k + 1, by omega, by go_num, HS⟩
        case measure => simp [intOf] <;> omega
    · have HK : Hid (x = false) := by
        have e : k = u := by rw [← hu.out, Nib.up_stop]; simp [hlt]
        rw [Hid, HX.out, ← e]; simp [hlt]
      clear hu HX
      go_wp2
      go_ret
      exact ⟨ret_bool (by rw [HK.out]), rfl⟩
theorem number_any (s : ByteArray) (a : Nat) (w : World) (hs : s.size ≤ 35184372088832) (ha : a ≤ s.size) :
    Calls Tryz.prog 55 #[.string s, .int .i64 a] w fun e w' => e = .returned (.tuple #[.int .i64 (Nib.num s a).1, .int .i64 (Nib.num s a).2]) ∧ w' = w := by
  generalize hx : Nib.num s a = x
  have HX : Hid (Nib.numF s (s.size - a) 0 a = x) := hx
  clear hx
  go_enter Tryz.func55, Tryz.ntmps55
  go_wp2
  go_loop [1, 6] (fun i n => ∃ k m : Nat, k ≤ s.size ∧ m ≤ 99 ∧ i = .int .i64 k ∧ n = .int .i64 m ∧ Hid (Nib.numF s (s.size - k) m k = x)) (fun i _ => s.size - (intOf i).toNat)
  case atStart => exact ⟨a, 0, ha, by omega, rfl, rfl, HX⟩
  case round =>
    clear HX
    obtain ⟨k, m, hk, hm, rfl, rfl, hu⟩ := hrel
    by_cases hlt : k < s.size
    · have hb0 := Nib.bt_pos hlt
      have hb1 := Nib.bt_hi s k
      have HN : Hid (x = if Nib.isDig s m k = true then Nib.numF s (s.size - (k + 1)) (if 99 < m * 10 + (Nib.bt s k - 48).toNat then 99 else m * 10 + (Nib.bt s k - 48).toNat) (k + 1) else (m, k)) := by
        rw [Hid, ← hu.out]
        obtain ⟨f, hf⟩ : ∃ f, s.size - k = f + 1 := ⟨s.size - k - 1, by omega⟩
        rw [hf, show s.size - (k + 1) = f by omega, Nib.numF]
        by_cases h : Nib.isDig s m k = true
        · rw [if_pos ⟨hlt, h⟩, if_pos h]
        · rw [if_neg (fun g => h g.2), if_neg h]
      clear hu
      have HB : Hid (Nib.bt s k = ((s[k]'hlt).toNat : Int)) := Nib.bt_in hlt
      have hb2 : ((s[k]'hlt).toNat : Int) < 256 := by rw [← Nib.bt_in hlt]; exact hb1
      clear hb0 hb1
      cases hd : Nib.isDig s m k with
      | true =>
        have hd1 : (49 ≤ ((s[k]'hlt).toNat : Int) ∧ ((s[k]'hlt).toNat : Int) ≤ 57) ∨ (((s[k]'hlt).toNat : Int) = 48 ∧ 0 < m) := by
          have := hd; simp only [Nib.isDig, decide_eq_true_eq, Nib.bt_in hlt] at this; exact this
        have hlo : 48 ≤ ((s[k]'hlt).toNat : Int) := by omega
        rw [Hid, if_pos hd, Nib.bt_in hlt] at HN
        have HN' : Hid _ := HN
        clear HN hd HB
        rcases hd1 with ⟨h1, h2⟩ | ⟨h1, h2⟩
        · go_wp2
          · exact ⟨⟨k + 1, 99, by omega, by omega, by go_num, rfl, by rw [Hid, HN'.out, if_pos (by omega)]⟩, by simp [intOf] <;> omega⟩
          · exact ⟨⟨k + 1, m * 10 + (((s[k]'hlt).toNat : Int) - 48).toNat, by omega, by omega, by go_num, by congr 1; omega, by rw [Hid, HN'.out, if_neg (by omega)]⟩, by simp [intOf] <;> omega⟩
        · have h1' : Hid (((s[k]'hlt).toNat : Int) = 48) := h1
          have h3 : (((s[k]'hlt).toNat : Int) == 48) = true := by simp [h1]
          have h4 : ¬ 49 ≤ ((s[k]'hlt).toNat : Int) := by omega
          clear h1
          go_wp2
          · exact ⟨⟨k + 1, 99, by omega, by omega, by go_num, rfl, by rw [Hid, HN'.out, if_pos (by omega)]⟩, by simp [intOf] <;> omega⟩
          · exact ⟨⟨k + 1, m * 10 + (((s[k]'hlt).toNat : Int) - 48).toNat, by omega, by omega, by go_num, by congr 1; omega, by rw [Hid, HN'.out, if_neg (by omega)]⟩, by simp [intOf] <;> omega⟩
      | false =>
        have hd1 : ¬ ((49 ≤ ((s[k]'hlt).toNat : Int) ∧ ((s[k]'hlt).toNat : Int) ≤ 57) ∨ (((s[k]'hlt).toNat : Int) = 48 ∧ 0 < m)) := by
          have := hd; simp only [Nib.isDig, decide_eq_false_iff_not, Nib.bt_in hlt] at this; exact this
        have HN' : Hid (x = (m, k)) := by rw [Hid, HN.out, if_neg (by simp [hd])]
        clear HN hd HB
        by_cases h1 : 49 ≤ ((s[k]'hlt).toNat : Int)
        · have h2 : ¬ ((s[k]'hlt).toNat : Int) ≤ 57 := by omega
          have h3 : (((s[k]'hlt).toNat : Int) == 48) = false := by simp; omega
          clear hd1
          go_wp2
          go_ret2
          exact ⟨by rw [HN'.out]; rfl, rfl⟩
        · by_cases h3 : ((s[k]'hlt).toNat : Int) = 48
          · have h4 : ¬ 0 < m := by omega
            have h5 : (((s[k]'hlt).toNat : Int) == 48) = true := by simp [h3]
            clear hd1 h3
            go_wp2
            go_ret2
            exact ⟨by rw [HN'.out]; rfl, rfl⟩
          · have h5 : (((s[k]'hlt).toNat : Int) == 48) = false := by simp; omega
            clear hd1 h3
            go_wp2
            go_ret2
            exact ⟨by rw [HN'.out]; rfl, rfl⟩
    · have HN' : Hid (x = (m, k)) := by rw [Hid, ← hu.out, show s.size - k = 0 by omega, Nib.numF]
      clear hu
      go_wp2
      go_ret2
      exact ⟨by rw [HN'.out]; rfl, rfl⟩
theorem more_any (w : World) :
    Calls Tryz.prog 53 #[] w fun e w' => e = .returned (.agg #[.bool Nib.cMore.more, .bool Nib.cMore.bad, .int .i64 Nib.cMore.reg, .int .i64 Nib.cMore.n, .bool Nib.cMore.given, .int .u8 Nib.cMore.verb, .bool Nib.cMore.twice, .int .u8 Nib.cMore.object, .bool Nib.cMore.around, .int .u8 Nib.cMore.way, .int .u8 Nib.cMore.other, .int .u8 Nib.cMore.c]) ∧ Below w.heap.size w w' := by
  go_enter Tryz.func53, Tryz.ntmps53
  go_wp2
  exact bodyPost_ret (v := .agg #[.bool Nib.cMore.more, .bool Nib.cMore.bad, .int .i64 Nib.cMore.reg, .int .i64 Nib.cMore.n, .bool Nib.cMore.given, .int .u8 Nib.cMore.verb, .bool Nib.cMore.twice, .int .u8 Nib.cMore.object, .bool Nib.cMore.around, .int .u8 Nib.cMore.way, .int .u8 Nib.cMore.other, .int .u8 Nib.cMore.c]) (by simp [results, Tryz.results53, go_sem, Nib.cMore]) rfl ⟨rfl, (Below.refl _ _).alloc (Nat.le_refl _) _⟩
theorem bad_any (w : World) :
    Calls Tryz.prog 54 #[] w fun e w' => e = .returned (.agg #[.bool Nib.cBad.more, .bool Nib.cBad.bad, .int .i64 Nib.cBad.reg, .int .i64 Nib.cBad.n, .bool Nib.cBad.given, .int .u8 Nib.cBad.verb, .bool Nib.cBad.twice, .int .u8 Nib.cBad.object, .bool Nib.cBad.around, .int .u8 Nib.cBad.way, .int .u8 Nib.cBad.other, .int .u8 Nib.cBad.c]) ∧ Below w.heap.size w w' := by
  go_enter Tryz.func54, Tryz.ntmps54
  go_wp2
  exact bodyPost_ret (v := .agg #[.bool Nib.cBad.more, .bool Nib.cBad.bad, .int .i64 Nib.cBad.reg, .int .i64 Nib.cBad.n, .bool Nib.cBad.given, .int .u8 Nib.cBad.verb, .bool Nib.cBad.twice, .int .u8 Nib.cBad.object, .bool Nib.cBad.around, .int .u8 Nib.cBad.way, .int .u8 Nib.cBad.other, .int .u8 Nib.cBad.c]) (by simp [results, Tryz.results54, go_sem, Nib.cBad]) rfl ⟨rfl, (Below.refl _ _).alloc (Nat.le_refl _) _⟩
theorem str_ne {s : ByteArray} (h : 0 < s.size) : s.toList.isEmpty = false := by
  rw [Lib.toList_data]
  cases hd : s.data.toList with
  | nil => have : s.size = 0 := by show s.data.size = 0; rw [← Array.length_toList, hd]; rfl
           omega
  | cons a l => rfl
theorem str_em {s : ByteArray} (h : s.size = 0) : s.toList.isEmpty = true := by
  rw [Lib.toList_data]
  have : s.data.toList = [] := by
    apply List.eq_nil_of_length_eq_zero; rw [Array.length_toList]; exact h
  rw [this]; rfl
theorem readWay_any (x : Nib.Cmd) (c : Int) (rest : ByteArray) (w : World) :
    Calls Tryz.prog 59 #[.agg #[.bool x.more, .bool x.bad, .int .i64 x.reg, .int .i64 x.n, .bool x.given, .int .u8 x.verb, .bool x.twice, .int .u8 x.object, .bool x.around, .int .u8 x.way, .int .u8 x.other, .int .u8 x.c], .int .u8 c, .string rest] w fun e w' => e = .returned (.agg #[.bool (Nib.rdWay x c rest).more, .bool (Nib.rdWay x c rest).bad, .int .i64 (Nib.rdWay x c rest).reg, .int .i64 (Nib.rdWay x c rest).n, .bool (Nib.rdWay x c rest).given, .int .u8 (Nib.rdWay x c rest).verb, .bool (Nib.rdWay x c rest).twice, .int .u8 (Nib.rdWay x c rest).object, .bool (Nib.rdWay x c rest).around, .int .u8 (Nib.rdWay x c rest).way, .int .u8 (Nib.rdWay x c rest).other, .int .u8 (Nib.rdWay x c rest).c]) ∧ Below w.heap.size w w' := by
  generalize hy : Nib.rdWay x c rest = y
  have HY : Hid (Nib.rdWay x c rest = y) := hy
  clear hy
  go_enter Tryz.func59, Tryz.ntmps59
  go_wp2_with fail
  refine (in_any Nib.kWays c _ (by decide)).mono ?_
  rintro e w' ⟨rfl, rfl⟩
  cases h1 : Nib.mem Nib.kWays c with
  | true =>
    have HZ : Hid (y = Nib.cW x c) := by rw [Hid, ← HY.out, Nib.rdWay, if_pos h1]
    clear HY
    go_wp2
    refine bodyPost_ret (v := .agg #[.bool (Nib.cW x c).more, .bool (Nib.cW x c).bad, .int .i64 (Nib.cW x c).reg, .int .i64 (Nib.cW x c).n, .bool (Nib.cW x c).given, .int .u8 (Nib.cW x c).verb, .bool (Nib.cW x c).twice, .int .u8 (Nib.cW x c).object, .bool (Nib.cW x c).around, .int .u8 (Nib.cW x c).way, .int .u8 (Nib.cW x c).other, .int .u8 (Nib.cW x c).c]) (by simp [results, Tryz.results59, go_sem, Nib.cW]) rfl ⟨by rw [HZ.out], ?_⟩
    repeat (with_reducible first | exact Below.refl _ _ | refine b_s ?_ _ | refine b_a ?_ _ | refine Below.drew ?_ | refine below_drewN ?_ _)
  | false =>
    go_wp2_with fail
    refine (in_any Nib.kFind c _ (by decide)).mono ?_
    rintro e w' ⟨rfl, rfl⟩
    cases h2 : Nib.mem Nib.kFind c with
    | true =>
      by_cases hr : rest.size = 0
      · have HZ : Hid (y = Nib.cMore) := by rw [Hid, ← HY.out, Nib.rdWay, if_neg (by simp [h1]), if_pos h2, if_pos hr]
        have hre := str_em hr
        clear HY hr
        go_wp2_with fail
        refine (more_any _).mono ?_
        rintro e w3 ⟨rfl, h3⟩
        obtain ⟨hc3, hf3⟩ := bcell h3
        have hz3 := h3.size
        try simp at hz3
        go_wp2
        refine bodyPost_ret (v := .agg #[.bool Nib.cMore.more, .bool Nib.cMore.bad, .int .i64 Nib.cMore.reg, .int .i64 Nib.cMore.n, .bool Nib.cMore.given, .int .u8 Nib.cMore.verb, .bool Nib.cMore.twice, .int .u8 Nib.cMore.object, .bool Nib.cMore.around, .int .u8 Nib.cMore.way, .int .u8 Nib.cMore.other, .int .u8 Nib.cMore.c]) (by simp [results, Tryz.results59, go_sem, hc3, hz3]) rfl ⟨by rw [HZ.out], ?_⟩
        repeat (with_reducible first | exact Below.refl _ _ | refine b_s ?_ _ | refine b_a ?_ _ | refine Below.drew ?_ | refine below_drewN ?_ _ | refine b_t ?_ h3)
      · have hlt : 0 < rest.size := by omega
        have HZ : Hid (y = Nib.cWC x c ((rest[0]'hlt).toNat : Int)) := by rw [Hid, ← HY.out, Nib.rdWay, if_neg (by simp [h1]), if_pos h2, if_neg hr, Nib.bt_in hlt]
        have hne := str_ne hlt
        clear HY
        go_wp2
        refine bodyPost_ret (v := .agg #[.bool (Nib.cWC x c ((rest[0]'hlt).toNat : Int)).more, .bool (Nib.cWC x c ((rest[0]'hlt).toNat : Int)).bad, .int .i64 (Nib.cWC x c ((rest[0]'hlt).toNat : Int)).reg, .int .i64 (Nib.cWC x c ((rest[0]'hlt).toNat : Int)).n, .bool (Nib.cWC x c ((rest[0]'hlt).toNat : Int)).given, .int .u8 (Nib.cWC x c ((rest[0]'hlt).toNat : Int)).verb, .bool (Nib.cWC x c ((rest[0]'hlt).toNat : Int)).twice, .int .u8 (Nib.cWC x c ((rest[0]'hlt).toNat : Int)).object, .bool (Nib.cWC x c ((rest[0]'hlt).toNat : Int)).around, .int .u8 (Nib.cWC x c ((rest[0]'hlt).toNat : Int)).way, .int .u8 (Nib.cWC x c ((rest[0]'hlt).toNat : Int)).other, .int .u8 (Nib.cWC x c ((rest[0]'hlt).toNat : Int)).c]) (by simp [results, Tryz.results59, go_sem, Nib.cWC]) rfl ⟨by rw [HZ.out], ?_⟩
        repeat (with_reducible first | exact Below.refl _ _ | refine b_s ?_ _ | refine b_a ?_ _ | refine Below.drew ?_ | refine below_drewN ?_ _)
    | false =>
      by_cases hg : c = 103
      · have hg' : (c == 103) = true := by simp [hg]
        by_cases hr : rest.size = 0
        · have HZ : Hid (y = Nib.cMore) := by rw [Hid, ← HY.out, Nib.rdWay, if_neg (by simp [h1]), if_neg (by simp [h2]), if_pos hg, if_pos hr]
          have hre := str_em hr
          clear HY hr hg
          go_wp2_with fail
          refine (more_any _).mono ?_
          rintro e w3 ⟨rfl, h3⟩
          obtain ⟨hc3, hf3⟩ := bcell h3
          have hz3 := h3.size
          try simp at hz3
          go_wp2
          refine bodyPost_ret (v := .agg #[.bool Nib.cMore.more, .bool Nib.cMore.bad, .int .i64 Nib.cMore.reg, .int .i64 Nib.cMore.n, .bool Nib.cMore.given, .int .u8 Nib.cMore.verb, .bool Nib.cMore.twice, .int .u8 Nib.cMore.object, .bool Nib.cMore.around, .int .u8 Nib.cMore.way, .int .u8 Nib.cMore.other, .int .u8 Nib.cMore.c]) (by simp [results, Tryz.results59, go_sem, hc3, hz3]) rfl ⟨by rw [HZ.out], ?_⟩
          repeat (with_reducible first | exact Below.refl _ _ | refine b_s ?_ _ | refine b_a ?_ _ | refine Below.drew ?_ | refine below_drewN ?_ _ | refine b_t ?_ h3)
        · have hlt : 0 < rest.size := by omega
          have hne := str_ne hlt
          by_cases hb : Nib.bt rest 0 = 103
          · have HZ : Hid (y = Nib.cW x c) := by rw [Hid, ← HY.out, Nib.rdWay, if_neg (by simp [h1]), if_neg (by simp [h2]), if_pos hg, if_neg hr, if_pos hb]
            have hb' : (((rest[0]'hlt).toNat : Int) == 103) = true := by rw [← Nib.bt_in hlt]; simp [hb]
            clear HY hr hg hb
            go_wp2
            refine bodyPost_ret (v := .agg #[.bool (Nib.cW x c).more, .bool (Nib.cW x c).bad, .int .i64 (Nib.cW x c).reg, .int .i64 (Nib.cW x c).n, .bool (Nib.cW x c).given, .int .u8 (Nib.cW x c).verb, .bool (Nib.cW x c).twice, .int .u8 (Nib.cW x c).object, .bool (Nib.cW x c).around, .int .u8 (Nib.cW x c).way, .int .u8 (Nib.cW x c).other, .int .u8 (Nib.cW x c).c]) (by simp [results, Tryz.results59, go_sem, Nib.cW]) rfl ⟨by rw [HZ.out], ?_⟩
            repeat (with_reducible first | exact Below.refl _ _ | refine b_s ?_ _ | refine b_a ?_ _ | refine Below.drew ?_ | refine below_drewN ?_ _)
          · have HZ : Hid (y = Nib.cBad) := by rw [Hid, ← HY.out, Nib.rdWay, if_neg (by simp [h1]), if_neg (by simp [h2]), if_pos hg, if_neg hr, if_neg hb]
            have hb' : (((rest[0]'hlt).toNat : Int) == 103) = false := by rw [← Nib.bt_in hlt]; simp [hb]
            clear HY hr hg hb
            go_wp2_with fail
            refine (bad_any _).mono ?_
            rintro e w3 ⟨rfl, h3⟩
            obtain ⟨hc3, hf3⟩ := bcell h3
            have hz3 := h3.size
            try simp at hz3
            go_wp2
            refine bodyPost_ret (v := .agg #[.bool Nib.cBad.more, .bool Nib.cBad.bad, .int .i64 Nib.cBad.reg, .int .i64 Nib.cBad.n, .bool Nib.cBad.given, .int .u8 Nib.cBad.verb, .bool Nib.cBad.twice, .int .u8 Nib.cBad.object, .bool Nib.cBad.around, .int .u8 Nib.cBad.way, .int .u8 Nib.cBad.other, .int .u8 Nib.cBad.c]) (by simp [results, Tryz.results59, go_sem, hc3, hz3]) rfl ⟨by rw [HZ.out], ?_⟩
            repeat (with_reducible first | exact Below.refl _ _ | refine b_s ?_ _ | refine b_a ?_ _ | refine Below.drew ?_ | refine below_drewN ?_ _ | refine b_t ?_ h3)
      · have hg' : (c == 103) = false := by simp [hg]
        have HZ : Hid (y = Nib.cBad) := by rw [Hid, ← HY.out, Nib.rdWay, if_neg (by simp [h1]), if_neg (by simp [h2]), if_neg hg]
        clear HY hg
        go_wp2_with fail
        refine (bad_any _).mono ?_
        rintro e w3 ⟨rfl, h3⟩
        obtain ⟨hc3, hf3⟩ := bcell h3
        have hz3 := h3.size
        try simp at hz3
        go_wp2
        refine bodyPost_ret (v := .agg #[.bool Nib.cBad.more, .bool Nib.cBad.bad, .int .i64 Nib.cBad.reg, .int .i64 Nib.cBad.n, .bool Nib.cBad.given, .int .u8 Nib.cBad.verb, .bool Nib.cBad.twice, .int .u8 Nib.cBad.object, .bool Nib.cBad.around, .int .u8 Nib.cBad.way, .int .u8 Nib.cBad.other, .int .u8 Nib.cBad.c]) (by simp [results, Tryz.results59, go_sem, hc3, hz3]) rfl ⟨by rw [HZ.out], ?_⟩
        repeat (with_reducible first | exact Below.refl _ _ | refine b_s ?_ _ | refine b_a ?_ _ | refine Below.drew ?_ | refine below_drewN ?_ _ | refine b_t ?_ h3)
end Go.Proofs.YtlendfhehhacpaaGreat
