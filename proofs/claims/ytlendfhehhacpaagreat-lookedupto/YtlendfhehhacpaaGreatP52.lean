/- Joined of the texts ModesO, ModesR, MapC, ModesY, KnownB. -/
import Derived.Test.YtlendfhehhacpaaGreatP11
import Derived.Test.YtlendfhehhacpaaGreatP45
import Derived.Test.YtlendfhehhacpaaGreatP47
import Derived.Test.YtlendfhehhacpaaGreatP44
set_option linter.unusedVariables false
set_option linter.unusedSimpArgs false
set_option maxRecDepth 100000
set_option maxHeartbeats 8000000
namespace Go.Proofs.YtlendfhehhacpaaGreat
open Go.RowKit
theorem bState (b r d : Nat) (tv : Value) (dg : ByteArray) (p : Pg) (w : World) (hb : BdAt w b r d tv dg) (h : RdAt w r d p) :
    Calls Tryz.prog 31 #[.pointer (some ⟨b, 0, none⟩)] w fun e w' => e = .returned (.agg #[.string p.t, .int .i64 (p.pl : Nat), .int .i64 (p.anchor : Nat), .int .i64 p.mode, .bool (waits p)]) ∧ Below w.heap.size w w' := by
  have HW : Hid (∀ ww, RdAt ww r d p → Calls Tryz.prog 39 #[.pointer (some ⟨r, 1, none⟩)] ww fun e w' => e = .returned (.bool (waits p)) ∧ Below ww.heap.size ww w') := fun ww hh => mWaiting r d p ww hh
  generalize waits p = N at *
  have H := h
  obtain ⟨c0, c1, c2, c3, c4, c5, c6, c7, c8, c9, fz, lt⟩ := h.dk
  have b0 := hb.c0
  have r0 := h.bg.c0
  have bl := hb.lt
  have rl := h.bg.lt
  clear c4 c5 c6 c7 c8 c9 h hb
  have l1 : d < w.heap.size + 1 := by omega
  have l2 : r < w.heap.size + 1 := by omega
  have l3 : b < w.heap.size + 1 := by omega
  have n1 : ¬ w.heap.size = d := by omega
  have n2 : ¬ d = w.heap.size := by omega
  have n3 : ¬ w.heap.size = r := by omega
  have n4 : ¬ r = w.heap.size := by omega
  have n5 : ¬ w.heap.size = b := by omega
  have n6 : ¬ b = w.heap.size := by omega
  go_enter Tryz.func31, Tryz.ntmps31
  go_wp2_with fail
  go_region_held3 (fun ww => ww.cell? ⟨b, 0, none⟩ = some (.pointer (some ⟨r, 0, none⟩)) ∧ ww.cell? ⟨r, 0, none⟩ = some (.pointer (some ⟨d, 0, none⟩)) ∧ ww.cell? ⟨d, 0, none⟩ = some (.string p.t) ∧ ww.cell? ⟨d, 1, none⟩ = some (.int .i64 (p.pl : Nat)) ∧ ww.cell? ⟨d, 2, none⟩ = some (.int .i64 (p.anchor : Nat)) ∧ ww.cell? ⟨d, 3, none⟩ = some (.int .i64 p.mode)) ((refine ⟨?_, ?_, ?_, ?_, ?_, ?_⟩ <;> (first | (go_simp; done) | ((repeat (first | with_reducible assumption | (with_reducible refine memLater ((Below.refl _ _).alloc (Nat.le_refl _) _) ?_) | (with_reducible refine memLater ((Below.refl _ _).drew) ?_) | (with_reducible refine memLater h1 ?_) | (with_reducible refine (memSet (by omega)).trans ?_) | (go_simp; done))); done)))) ((go_at_call 39; refine Calls.mono (HW.out _ (by (repeat (with_reducible first | exact H | refine RdAt.alloc ?_ _ | refine RdAt.drewN ?_ _ | refine RdAt.drew ?_ | refine r_o ?_ _)))) ?_; rintro r1 w1 ⟨rfl, h1⟩; have hz1 := h1.size; (try simp at hz1); (try have hl1_0 : b < w1.heap.size := (by omega)); (try have hk1_0 : b < w1.heap.size + 1 := (by omega)); (try have hl1_1 : d < w1.heap.size := (by omega)); (try have hk1_1 : d < w1.heap.size + 1 := (by omega)); (try have hl1_2 : r < w1.heap.size := (by omega)); (try have hk1_2 : r < w1.heap.size + 1 := (by omega)); obtain ⟨hc1, hf1⟩ := bcell h1; have hn1_0 := (hc1 (w.heap.size) 0 (by first | omega | (simp <;> omega))).trans (show _ = some (.string ⟨#[]⟩) by simp); have hn1_1 := (hc1 (w.heap.size) 1 (by first | omega | (simp <;> omega))).trans (show _ = some (.int .i64 0) by simp); have hn1_2 := (hc1 (w.heap.size) 2 (by first | omega | (simp <;> omega))).trans (show _ = some (.int .i64 0) by simp); have hn1_3 := (hc1 (w.heap.size) 3 (by first | omega | (simp <;> omega))).trans (show _ = some (.int .i64 0) by simp); have hn1_4 := (hc1 (w.heap.size) 4 (by first | omega | (simp <;> omega))).trans (show _ = some (.bool false) by simp); have hq1 := fun o => (hf1 (w.heap.size) o (by first | omega | (simp <;> omega))).trans (show _ = false by simp); have hg1 : w.heap.size < w1.heap.size := (by omega); clear hc1 hf1))
  go_wp2
  refine bodyPost_ret (v := .agg #[.string p.t, .int .i64 (p.pl : Nat), .int .i64 (p.anchor : Nat), .int .i64 p.mode, .bool N]) (by simp [results, Tryz.results31, go_sem, hn1_0, hn1_1, hn1_2, hn1_3, hn1_4]) rfl ⟨rfl, ?_⟩
  repeat (with_reducible first | exact Below.refl _ _ | refine b_s ?_ _ | refine b_a ?_ _ | refine Below.drew ?_ | refine below_drewN ?_ _ | refine b_t ?_ h1)
theorem nNew_ok (t : ByteArray) (w : World) (h : t.size ≤ 1000) :
    Calls Tryz.prog 24 #[.string t] w fun e w' => ∃ q b r d m : Nat, e = .returned (.tuple #[.pointer (some ⟨q, 0, none⟩), .int .i64 0]) ∧ w'.cell? ⟨q, 0, none⟩ = some (.pointer (some ⟨b, 0, none⟩)) ∧ NbAt w' b r d (newPg t m) (.slice none 0 0) 0 ⟨#[]⟩ ∧ w'.heap[m]? = some (.map #[] 0) ∧
      w.heap.size ≤ q ∧ w.heap.size ≤ m ∧ w.heap.size ≤ b ∧ w.heap.size ≤ r ∧ w.heap.size ≤ d ∧ q ≠ b ∧ q ≠ r ∧ q ≠ d ∧ m ≠ b ∧ m ≠ r ∧ m ≠ d ∧ q < w'.heap.size ∧ Below w.heap.size w w' := by
  have h' : ¬ (1000 : Int) < (t.size : Int) := by omega
  have HN : Hid (∀ ww, Calls Tryz.prog 33 #[.string t] ww fun e w' => ∃ b r d m : Nat, e = .returned (.pointer (some ⟨b, 0, none⟩)) ∧ NbAt w' b r d (newPg t m) (.slice none 0 0) 0 ⟨#[]⟩ ∧ w'.heap[m]? = some (.map #[] 0) ∧
      ww.heap.size ≤ m ∧ ww.heap.size ≤ b ∧ ww.heap.size ≤ r ∧ ww.heap.size ≤ d ∧ m ≠ b ∧ m ≠ r ∧ m ≠ d ∧ Below ww.heap.size ww w') := fun ww => bNew t ww
  go_enter Tryz.func24, Tryz.ntmps24
  go_wp2_with fail
  refine Calls.mono (HN.out _) ?_
  rintro e w1 ⟨b, r, d, m, rfl, hN, hm, m1, m2, m3, m4, m5, m6, m7, h1⟩
  have HB : Hid (NbAt w1 b r d (newPg t m) (.slice none 0 0) 0 ⟨#[]⟩) := hN
  have HM : Hid (w1.heap[m]? = some (.map #[] 0)) := hm
  have bl := hN.bd.lt
  have rl := hN.rd.bg.lt
  have dl := hN.rd.dk.lt
  have ml : m < w1.heap.size := (Array.getElem?_eq_some_iff.1 hm).1
  have hz1 := h1.size
  clear hN hm
  go_wp2
  go_ret2
  refine ⟨w1.heap.size, b, r, d, m, rfl, by simp, ?_, ?_, by omega, m1, m2, m3, m4, by omega, by omega, by omega, m5, m6, m7, by simp, ?_⟩
  · exact ⟨HB.out.bd.alloc _, HB.out.rd.alloc _, ⟨_, World.ownsRow_nil _ _ _ _⟩, HB.out.br, HB.out.bd', HB.out.tb, HB.out.tr, HB.out.td⟩
  · rw [Below.heap_alloc _ _ _ ml]; exact HM.out
  · repeat (with_reducible first | exact Below.refl _ _ | refine b_s ?_ _ | refine b_a ?_ _ | refine Below.drew ?_ | refine below_drewN ?_ _ | refine b_t ?_ h1)
theorem nType (q b : Nat) (s : ByteArray) (w : World) (N : Int) (Q : World → Prop) (hq : w.cell? ⟨q, 0, none⟩ = some (.pointer (some ⟨b, 0, none⟩)))
    (HT : Hid (∀ ww, ww = w → Calls Tryz.prog 30 #[.pointer (some ⟨b, 0, none⟩), .string s] ww fun e w' => e = .returned (.int .i64 N) ∧ Q w')) :
    Calls Tryz.prog 17 #[.pointer (some ⟨q, 0, none⟩), .string s] w fun e w' => e = .returned (.int .i64 N) ∧ Q w' := by
  go_enter Tryz.func17, Tryz.ntmps17
  go_wp2_with fail
  refine Calls.mono (HT.out _ rfl) ?_
  rintro e w1 ⟨rfl, h1⟩
  have HQ : Hid (Q w1) := h1
  clear h1
  go_wp2
  go_ret
  exact ⟨rfl, HQ.out⟩
theorem nState (q b r d : Nat) (tv : Value) (dg : ByteArray) (p : Pg) (w : World) (hq : w.cell? ⟨q, 0, none⟩ = some (.pointer (some ⟨b, 0, none⟩))) (hb : BdAt w b r d tv dg) (h : RdAt w r d p) :
    Calls Tryz.prog 18 #[.pointer (some ⟨q, 0, none⟩)] w fun e w' => e = .returned (.agg #[.string p.t, .int .i64 (p.pl : Nat), .int .i64 (p.anchor : Nat), .int .i64 p.mode, .bool (waits p)]) ∧ Below w.heap.size w w' := by
  have HS : Hid (∀ ww, BdAt ww b r d tv dg → RdAt ww r d p → Calls Tryz.prog 31 #[.pointer (some ⟨b, 0, none⟩)] ww fun e w' => e = .returned (.agg #[.string p.t, .int .i64 (p.pl : Nat), .int .i64 (p.anchor : Nat), .int .i64 p.mode, .bool (waits p)]) ∧ Below ww.heap.size ww w') := fun ww h1 h2 => bState b r d tv dg p ww h1 h2
  generalize waits p = N at *
  have ql : q < w.heap.size := World.block_lt_of_cell? w ⟨q, 0, none⟩ hq
  have l1 : q < w.heap.size + 1 := by omega
  go_enter Tryz.func18, Tryz.ntmps18
  go_wp2_with fail
  refine Calls.mono (HS.out _ (hb.alloc _) (h.alloc _)) ?_
  rintro e w1 ⟨rfl, h1⟩
  obtain ⟨hc1, hf1⟩ := bcell h1
  have hz1 := h1.size
  simp at hz1
  have e0 := fun o => hc1 w.heap.size o (by simp)
  have e1 := fun o => hf1 w.heap.size o (by simp)
  clear hc1 hf1
  go_wp2
  refine bodyPost_ret (v := .agg #[.string p.t, .int .i64 (p.pl : Nat), .int .i64 (p.anchor : Nat), .int .i64 p.mode, .bool N]) (by simp [results, Tryz.results18, go_sem, e0]) rfl ⟨rfl, ?_⟩
  repeat (with_reducible first | exact Below.refl _ _ | refine b_s ?_ _ | refine b_a ?_ _ | refine Below.drew ?_ | refine below_drewN ?_ _ | refine b_t ?_ h1)
theorem RgAt.new {w : World} {m k : Nat} (h : w.heap[m]? = some (.map #[] k)) : RgAt w m (fun _ => .agg #[.string ⟨#[]⟩, .bool false]) :=
  ⟨#[], k, h, by simp [RgOk], fun d => by simp [rgFind, rgVal]⟩
theorem RgAt.look {w : World} {m : Nat} {f : Int → Value} (h : RgAt w m f) (c : Int) : (Instr.lookup 90 (.map (some m)) (.int .u8 c) false).run Tryz.prog w = .ok (f c) w := by
  obtain ⟨es, k, h1, h2, h3⟩ := h.out
  rw [rg_look m k c es w h1 h2, h3]
theorem bRegister_at (b r d m : Nat) (tv : Value) (dg : ByteArray) (p : Pg) (c : Int) (f : Int → Value) (t : ByteArray) (l : Bool) (w : World) (hb : BdAt w b r d tv dg) (h : RdAt w r d p) (hm : p.regs = .map (some m)) (hg : RgAt w m f) (hf : f c = .agg #[.string t, .bool l]) :
    Calls Tryz.prog 32 #[.pointer (some ⟨b, 0, none⟩), .int .u8 c] w fun e w' => e = .returned (.tuple #[.string t, .bool l]) ∧ Below w.heap.size w w' := by
  have c4 := h.dk.c4
  rw [hm] at c4
  have b0 := hb.c0
  have r0 := h.bg.c0
  have bl := hb.lt
  have rl := h.bg.lt
  have dl := h.dk.lt
  have l1 : d < w.heap.size + 1 := by omega
  have l2 : r < w.heap.size + 1 := by omega
  have l3 : b < w.heap.size + 1 := by omega
  clear hb h
  have hlk := hg.look c
  rw [hf] at hlk
  clear hg hf
  go_enter Tryz.func32, Tryz.ntmps32
  go_wp2_with fail
  go_region_held3 (fun ww => ww.cell? ⟨w.heap.size, 0, none⟩ = some (.string t) ∧ ww.cell? ⟨w.heap.size, 1, none⟩ = some (.bool l)) ((refine ⟨?_, ?_⟩ <;> go_simp)) (fail)
  go_wp2
  go_ret2
  refine ⟨rfl, ?_⟩
  repeat (with_reducible first | exact Below.refl _ _ | refine b_s ?_ _ | refine b_a ?_ _ | refine Below.drew ?_ | refine below_drewN ?_ _)
theorem nRegister_at (q b r d m : Nat) (tv : Value) (dg : ByteArray) (p : Pg) (c : Int) (f : Int → Value) (t : ByteArray) (l : Bool) (w : World) (hq : w.cell? ⟨q, 0, none⟩ = some (.pointer (some ⟨b, 0, none⟩))) (hb : BdAt w b r d tv dg) (h : RdAt w r d p) (hm : p.regs = .map (some m)) (hg : RgAt w m f) (hf : f c = .agg #[.string t, .bool l]) :
    Calls Tryz.prog 20 #[.pointer (some ⟨q, 0, none⟩), .int .u8 c] w fun e w' => e = .returned (.tuple #[.string t, .bool l]) ∧ Below w.heap.size w w' := by
  have HS : Hid (∀ ww, ww = w → Calls Tryz.prog 32 #[.pointer (some ⟨b, 0, none⟩), .int .u8 c] ww fun e w' => e = .returned (.tuple #[.string t, .bool l]) ∧ Below ww.heap.size ww w') := fun ww h1 => by subst h1; exact bRegister_at b r d m tv dg p c f t l ww hb h hm hg hf
  clear hb h hm hg hf
  go_enter Tryz.func20, Tryz.ntmps20
  go_wp2_with fail
  refine Calls.mono (HS.out _ rfl) ?_
  rintro e w1 ⟨rfl, h1⟩
  go_wp2
  go_ret2
  exact ⟨rfl, h1⟩
theorem bType_inv (b : Nat) (s : ByteArray) (I : Nat → World → Prop) (w : World) (h : I 0 w) (hs : s.size ≤ 17592186044416)
    (HK : ∀ k, (hk : k < s.size) → ∀ ww, I k ww → Calls Tryz.prog 38 #[.pointer (some ⟨b, 0, none⟩), .int .u8 (s[k]'hk).toNat] ww fun e w' => ∃ O : Int, e = .returned (.int .i64 O) ∧ I (k + 1) w') :
    Calls Tryz.prog 30 #[.pointer (some ⟨b, 0, none⟩), .string s] w fun e w' => ∃ n : Nat, e = .returned (.int .i64 n) ∧ n ≤ s.size ∧ I s.size w' := by
  have HK' : Hid (∀ k, (hk : k < s.size) → ∀ ww, I k ww → Calls Tryz.prog 38 #[.pointer (some ⟨b, 0, none⟩), .int .u8 (s[k]'hk).toNat] ww fun e w' => ∃ O : Int, e = .returned (.int .i64 O) ∧ I (k + 1) w') := HK
  clear HK
  go_enter Tryz.func30, Tryz.ntmps30
  go_wp2
  go_loopw [5, 9] (fun m i wr => ∃ k n : Nat, k ≤ s.size ∧ i = .int .i64 k ∧ m = .int .i64 n ∧ n ≤ k ∧ I k wr) (fun _ i _ => s.size - (intOf i).toNat)
  case atStart => exact ⟨0, 0, Nat.zero_le _, rfl, rfl, Nat.le_refl _, h⟩
  case round =>
    obtain ⟨k, n, hk, rfl, rfl, hnk, h1⟩ := hrel
    by_cases hlt : k < s.size
    · have HC := HK'.out k hlt _ h1
      go_wp2_with fail
      refine Calls.mono HC ?_
      rintro e w1 ⟨O, rfl, h2⟩
      clear h1 HC
      by_cases hO : O = 4
      · have hO' : (O == 4) = true := by simp [hO]
        clear hO
        go_wp2
        go_roundw
        case rel => exact ⟨k + 1, n + 1, by omega, by go_num, by go_num, by omega, h2⟩
        case measure => simp [intOf] <;> omega
      · have hO' : (O == 4) = false := by simp [hO]
        clear hO
        go_wp2
        go_roundw
        case rel => exact ⟨k + 1, n, by omega, by go_num, rfl, by omega, h2⟩
        case measure => simp [intOf] <;> omega
    · have hkn : k = s.size := by omega
      subst hkn
      go_wp2
      go_ret
      exact ⟨n, rfl, hnk, h1⟩
theorem bType_none (b : Nat) (s : ByteArray) (I : Nat → World → Prop) (w : World) (h : I 0 w) (hs : s.size ≤ 17592186044416)
    (HK : ∀ k, (hk : k < s.size) → ∀ ww, I k ww → Calls Tryz.prog 38 #[.pointer (some ⟨b, 0, none⟩), .int .u8 (s[k]'hk).toNat] ww fun e w' => ∃ O : Int, e = .returned (.int .i64 O) ∧ ¬ O = 4 ∧ I (k + 1) w') :
    Calls Tryz.prog 30 #[.pointer (some ⟨b, 0, none⟩), .string s] w fun e w' => e = .returned (.int .i64 0) ∧ I s.size w' := by
  have HK' : Hid (∀ k, (hk : k < s.size) → ∀ ww, I k ww → Calls Tryz.prog 38 #[.pointer (some ⟨b, 0, none⟩), .int .u8 (s[k]'hk).toNat] ww fun e w' => ∃ O : Int, e = .returned (.int .i64 O) ∧ ¬ O = 4 ∧ I (k + 1) w') := HK
  clear HK
  go_enter Tryz.func30, Tryz.ntmps30
  go_wp2
  go_loopw [5, 9] (fun m i wr => ∃ k : Nat, k ≤ s.size ∧ i = .int .i64 k ∧ m = .int .i64 0 ∧ I k wr) (fun _ i _ => s.size - (intOf i).toNat)
  case atStart => exact ⟨0, Nat.zero_le _, rfl, rfl, h⟩
  case round =>
    obtain ⟨k, hk, rfl, rfl, h1⟩ := hrel
    by_cases hlt : k < s.size
    · have HC := HK'.out k hlt _ h1
      go_wp2_with fail
      refine Calls.mono HC ?_
      rintro e w1 ⟨O, rfl, hO, h2⟩
      clear h1 HC
      have hO' : (O == 4) = false := by simp [hO]
      clear hO
      go_wp2
      go_roundw
      case rel => exact ⟨k + 1, by omega, by go_num, rfl, h2⟩
      case measure => simp [intOf] <;> omega
    · have hkn : k = s.size := by omega
      subst hkn
      go_wp2
      go_ret
      exact ⟨rfl, h1⟩
theorem eqIn_strK (d : Nat) (a b : ByteArray) (w : World) : (Op.equalIn (d + 1) 9 (.string a) (.string b)).run Tryz.prog w = .ok (a == b) w := by
  simp [Op.equalIn, run_underlying Tryz.underlying9]
theorem eqIn_boolK (d : Nat) (a b : Bool) (w : World) : (Op.equalIn (d + 1) 4 (.bool a) (.bool b)).run Tryz.prog w = .ok (a == b) w := by
  simp [Op.equalIn, run_underlying Tryz.underlying4]
theorem eq_stateK_in (k : Nat) (s : ByteArray) (a b c : Int) (d : Bool) (w : World) : (Op.equalIn (k + 2) 32 (.agg #[.string s, .int .i64 a, .int .i64 b, .int .i64 c, .bool d]) (.agg #[.string s, .int .i64 a, .int .i64 b, .int .i64 c, .bool d])).run Tryz.prog w = .ok true w := by
  have h1 := fun x y w => eqIn_int k x y w
  have h2 := fun x y w => eqIn_strK k x y w
  have h3 := fun x y w => eqIn_boolK k x y w
  rw [show k + 2 = (k + 1) + 1 by omega]
  rw [Op.equalIn]
  simp only [Sem.run_bind, run_underlying Tryz.underlying32, Result.andThen_ok]
  simp [go_sem, part, h1, h2, h3, Std.Legacy.Range.forIn_eq_forIn_range', List.range']
  first | exact beq_self_eq_true s | (show (s.data == s.data) = true; simp) | (cases s; rfl)
theorem eq_stateK (s : ByteArray) (a b c : Int) (d : Bool) (w : World) : (Op.equal 32 (.agg #[.string s, .int .i64 a, .int .i64 b, .int .i64 c, .bool d]) (.agg #[.string s, .int .i64 a, .int .i64 b, .int .i64 c, .bool d])).run Tryz.prog w = .ok true w := eq_stateK_in 9998 s a b c d w
theorem neq_stateK (s : ByteArray) (a b c : Int) (d : Bool) (w : World) : (binOp .neq 32 (.agg #[.string s, .int .i64 a, .int .i64 b, .int .i64 c, .bool d]) (.agg #[.string s, .int .i64 a, .int .i64 b, .int .i64 c, .bool d])).run Tryz.prog w = .ok (.bool false) w := by
  have e : binOp .neq 32 (.agg #[.string s, .int .i64 a, .int .i64 b, .int .i64 c, .bool d]) (.agg #[.string s, .int .i64 a, .int .i64 b, .int .i64 c, .bool d]) = (do pure (.bool (!(← Op.equal 32 (.agg #[.string s, .int .i64 a, .int .i64 b, .int .i64 c, .bool d]) (.agg #[.string s, .int .i64 a, .int .i64 b, .int .i64 c, .bool d]))))) := rfl
  rw [e, Sem.run_bind, eq_stateK]
  rfl
def cut3 (s : ByteArray) : ByteArray := if 300 < s.size then s.extract 0 300 else s
theorem cut3_size (s : ByteArray) : (cut3 s).size ≤ 300 := by
  unfold cut3
  split
  · rw [ByteArray.size_extract]; omega
  · omega
theorem kUpTo (s : ByteArray) (w : World) (hs : s.size ≤ 1048576) :
    Calls Tryz.prog 16 #[.string s, .int .i64 300] w fun e w' => e = .returned (.string (cut3 s)) ∧ Below w.heap.size w w' := by
  unfold cut3
  by_cases h : 300 < s.size
  · rw [if_pos h]
    have h1 : (300 : Int) < ((s.size : Nat) : Int) := by omega
    have h2 : (300 : Int) ≤ ((s.size : Nat) : Int) := by omega
    go_enter Tryz.func16, Tryz.ntmps16
    go_wp2
    refine bodyPost_ret (v := .string (s.extract 0 300)) (by simp [results, Tryz.results16, go_sem]) rfl ⟨rfl, ?_⟩
    repeat (with_reducible first | exact Below.refl _ _ | refine b_s ?_ _ | refine b_a ?_ _ | refine Below.drew ?_ | refine below_drewN ?_ _)
  · rw [if_neg h]
    have h1 : ¬ (300 : Int) < ((s.size : Nat) : Int) := by omega
    go_enter Tryz.func16, Tryz.ntmps16
    go_wp2
    refine bodyPost_ret (v := .string s) (by simp [results, Tryz.results16, go_sem]) rfl ⟨rfl, ?_⟩
    repeat (with_reducible first | exact Below.refl _ _ | refine b_s ?_ _ | refine b_a ?_ _ | refine Below.drew ?_ | refine below_drewN ?_ _)
structure New7 (w W : World) (q b r d m : Nat) (t : ByteArray) : Prop where
  cq : W.cell? ⟨q, 0, none⟩ = some (.pointer (some ⟨b, 0, none⟩))
  bd : BdAt W b r d (.slice none 0 0) ⟨#[]⟩
  rd : RdAt W r d (newPg t m)
  rg : RgAt W m f0
  ly : Lay b r d m
  qb : q ≠ b
  qr : q ≠ r
  qd : q ≠ d
  qm : q ≠ m
  lq : w.heap.size ≤ q
  lb : w.heap.size ≤ b
  lr : w.heap.size ≤ r
  ld : w.heap.size ≤ d
  lm : w.heap.size ≤ m
theorem New7.below {w W W' : World} {q b r d m : Nat} {t : ByteArray} (h : New7 w W q b r d m t) (hb : Below W.heap.size W W') : New7 w W' q b r d m t :=
  ⟨memLater hb h.cq, h.bd.below hb, h.rd.below hb, h.rg.below hb, h.ly, h.qb, h.qr, h.qd, h.qm, h.lq, h.lb, h.lr, h.ld, h.lm⟩
theorem kOpened (s : ByteArray) (w : World) (hs : s.size ≤ 1048576) :
    Calls Tryz.prog 15 #[.string s] w fun e w' => ∃ q b r d m : Nat, e = .returned (.pointer (some ⟨q, 0, none⟩)) ∧ New7 w w' q b r d m (cut3 s) ∧ Below w.heap.size w w' := by
  have HU : Hid (∀ ww, Calls Tryz.prog 16 #[.string s, .int .i64 300] ww fun e w' => e = .returned (.string (cut3 s)) ∧ Below ww.heap.size ww w') := fun ww => kUpTo s ww hs
  have hc := cut3_size s
  generalize cut3 s = t at *
  have HN : Hid (∀ ww, Calls Tryz.prog 24 #[.string t] ww fun e w' => ∃ q b r d m : Nat, e = .returned (.tuple #[.pointer (some ⟨q, 0, none⟩), .int .i64 0]) ∧ New7 ww w' q b r d m t ∧ Below ww.heap.size ww w') := by
    intro ww
    refine Calls.mono (nNew_ok t ww (by omega)) ?_
    rintro e w' ⟨q, b, r, d, m, rfl, h1, h2, h3, h4, h5, h6, h7, h8, h9, h10, h11, h12, h13, h14, h15, h16⟩
    have hqm : q ≠ m := by
      intro e
      subst e
      have hk : w'.cell? ⟨q, 0, none⟩ = none := by simp [World.cell?, h3]
      rw [hk] at h1
      cases h1
    exact ⟨q, b, r, d, m, rfl, ⟨h1, h2.bd, h2.rd, RgAt.new h3, ⟨h2.br, h2.bd', h12, h13, h14⟩, h9, h10, h11, hqm, h4, h6, h7, h8, h5⟩, h16⟩
  have HS : Hid (∀ ww W q b r d m, New7 ww W q b r d m t → Calls Tryz.prog 18 #[.pointer (some ⟨q, 0, none⟩)] W fun e w' => e = .returned (.agg #[.string t, .int .i64 0, .int .i64 0, .int .i64 0, .bool false]) ∧ Below W.heap.size W w') := fun ww W q b r d m h => nState q b r d _ _ (newPg t m) W h.cq h.bd h.rd
  have hEq := fun ww => neq_stateK t 0 0 0 false ww
  go_enter Tryz.func15, Tryz.ntmps15
  go_wp2_with fail
  refine Calls.mono (HU.out _) ?_
  rintro e w1 ⟨rfl, h1⟩
  have hz1 := h1.size
  (try simp at hz1)
  go_wp2_with fail
  refine Calls.mono (HN.out _) ?_
  rintro e w2 ⟨q, b, r, d, m, rfl, N2, h2⟩
  have hz2 := h2.size
  (try simp at hz2)
  go_wp2_with fail
  refine Calls.mono (HS.out _ _ q b r d m N2) ?_
  rintro e w3 ⟨rfl, h3⟩
  have N3 := N2.below h3
  have hz3 := h3.size
  (try simp at hz3)
  go_wp2_with fail
  refine Calls.mono (HU.out _) ?_
  rintro e w4 ⟨rfl, h4⟩
  have N4 := N3.below h4
  have hz4 := h4.size
  (try simp at hz4)
  go_wp2
  go_ret
  refine ⟨q, b, r, d, m, rfl, ?_, ?_⟩
  · exact ⟨N4.cq, N4.bd, N4.rd, N4.rg, N4.ly, N4.qb, N4.qr, N4.qd, N4.qm, by have := N4.lq; omega, by have := N4.lb; omega, by have := N4.lr; omega, by have := N4.ld; omega, by have := N4.lm; omega⟩
  · repeat (with_reducible first | exact Below.refl _ _ | refine b_s ?_ _ | refine b_a ?_ _ | refine Below.drew ?_ | refine below_drewN ?_ _ | refine b_t ?_ h4 | refine b_t ?_ h3 | refine b_t ?_ h2 | refine b_t ?_ h1)
end Go.Proofs.YtlendfhehhacpaaGreat
