/- A part. -/
import Derived.Test.YtlendfhehhacpaaGreatQ06
set_option linter.unusedVariables false
set_option linter.unusedSimpArgs false
set_option maxRecDepth 100000
set_option maxHeartbeats 8000000
namespace Go.Proofs.YtlendfhehhacpaaGreat
open Go.RowKit Nib Tryz
theorem qt17 {P : Prop} (h : P := by
  subst ea eb
  have h1 := beg_le s k
  have h2 := fin_ge s k
  have h3 := fin_le hk
  have HI : Hid (Nib.up (fun i => blk (bt s i)) (fin s k) (beg s k) = ind s k) := rfl
  generalize ind s k = I at *
  generalize fin s k = F at *
  generalize beg s k = B at *
  go_enter func187, ntmps187
  go_wp2
  go_loopw [11] (fun _ wr => ∃ q : Nat, B ≤ q ∧ q ≤ F ∧ Hid (Nib.up (fun i => blk (bt s i)) F q = I) ∧ wr = (((w.alloc (.cells #[.int .i64 B, .int .i64 F] 128)).alloc (.cells #[.int .i64 0, .int .i64 0] 128)).alloc (.cells #[.int .i64 B, .int .i64 q] 128))) (fun _ wr => F - (intOf ((wr.cell? ⟨w.heap.size + 1 + 1, 1, none⟩).getD undef)).toNat)
  case atStart => exact ⟨B, by omega, by omega, HI, rfl⟩
  case round =>
   clear HI
   obtain ⟨q, hq1, hq2, hu, rfl⟩ := hrel
   by_cases hlt : q < F
   ·have hq : q < s.size := by omega
    by_cases hc : blk (bt s q) = true
    ·have HS : Hid (Nib.up (fun i => blk (bt s i)) F (q + 1) = I) := by rw [Hid, ← hu.out, up_step hlt hc]
     have HC : Hid (cls (((s[q]'hq).toNat : Nat) : Int) false = 0) := by rw [Hid, ← bt_in hq]; unfold cls; rw [if_pos hc]
     clear hu hc
     go_wp2_with fail
     refine (tClass_any _ false _).mono ?_
     rintro e w' ⟨rfl, rfl⟩
     rw [HC.out]
     go_wp2
     go_round
     case rel => exact ⟨q + 1, by omega, by omega, HS, by simp⟩
     case measure => go_simp; simp [intOf] <;> omega
    ·have HZ : Hid (q = I) := by rw [Hid, ← hu.out, up_stop]; exact fun h => hc h.2
     have HC : Hid ((cls (((s[q]'hq).toNat : Nat) : Int) false == 0) = false) := by
      rw [Hid, ← bt_in hq]; unfold cls; rw [if_neg hc]; (repeat' split) <;> rfl
     clear hu hc
     go_wp2_with fail
     refine (tClass_any _ false _).mono ?_
     rintro e w' ⟨rfl, rfl⟩
     generalize cls (((s[q]'hq).toNat : Nat) : Int) false = C at *
     have HC' := HC.out
     go_wp2
     refine bodyPost_ret (v := .agg #[.int .i64 (B), .int .i64 (q)]) (by simp [results, results187, go_sem]) rfl ⟨by rw [HZ.out], ?_⟩
     exact qB
   ·have HZ : Hid (q = I) := by rw [Hid, ← hu.out, up_stop]; exact fun h => hlt h.1
    clear hu
    go_wp2
    refine bodyPost_ret (v := .agg #[.int .i64 (B), .int .i64 (q)]) (by simp [results, results187, go_sem]) rfl ⟨by rw [HZ.out], ?_⟩
    exact qB
 ) : P := h
theorem tIndent_any (s : ByteArray) (a b : Int) (k : Nat) (w : World) (hs : s.size ≤ 1000) (hk : k ≤ s.size) (ea : a = beg s k) (eb : b = fin s k) :
  qC 187 #[.string s, .agg #[.int .i64 (a), .int .i64 (b)]] w (.agg #[.int .i64 (beg s k), .int .i64 (ind s k)]) := by
 exact qt17
theorem qt54 {P : Prop} (h : P := by
  have HS : Hid (Nib.up (fun i => cls (bt s i) g == C) s.size (r + 1) = R) := by rw [Hid, ← hu.out, up_step hlt hc]
  have HC : Hid ((cls (((s[r]'hlt).toNat : Nat) : Int) g == C) = true) := by rw [Hid, ← bt_in hlt]; exact hc
  clear hu hc
  go_wp2_with fail
  refine (tClass_any _ g _).mono ?_
  rintro e w' ⟨rfl, rfl⟩
  generalize cls (((s[r]'hlt).toNat : Nat) : Int) g = D at *
  have HC' := HC.out
  go_wp2
  go_round
  case rel => exact ⟨r + 1, by omega, by omega, HS, by simp⟩
  case measure => go_simp; simp [intOf] <;> omega
 ) : P := h
theorem tRun_any (s : ByteArray) (p : Int) (k : Nat) (g : Bool) (w : World) (hs : s.size ≤ 1000) (e : p = k) (hk : k < s.size) (hn : bt s k ≠ 10) :
  qC 256 #[.string s, .int .i64 p, .bool g] w (.agg #[.int .i64 (runB s k g), .int .i64 (wrun s k g)]) := by
 subst e
 have hc' : (((s[k]'hk).toNat : Int) == 10) = false := by rw [← bt_in hk]; simp [hn]
 have HL : Hid (Nib.dn (fun i => cls (bt s i) g == cls (((s[k]'hk).toNat : Nat) : Int) g) k = runB s k g) := by rw [Hid, ← bt_in hk]; rfl
 have HR : Hid (Nib.up (fun i => cls (bt s i) g == cls (((s[k]'hk).toNat : Nat) : Int) g) s.size k = wrun s k g) := by rw [Hid, ← bt_in hk]; rfl
 have hL := runB_le s k g
 generalize runB s k g = L at *
 generalize wrun s k g = R at *
 go_enter func256, ntmps256
 go_wp2_with fail
 refine (tClass_any _ g _).mono ?_
 rintro e w' ⟨rfl, rfl⟩
 generalize cls (((s[k]'hk).toNat : Nat) : Int) g = C at *
 go_wp2
 go_loopw [28] (fun _ wr => ∃ q : Nat, q ≤ k ∧ Hid (Nib.dn (fun i => cls (bt s i) g == C) q = L) ∧ wr = ((w.alloc (.cells #[.int .i64 0, .int .i64 0] 128)).alloc (.cells #[.int .i64 q, .int .i64 k] 128))) (fun _ wr => (intOf ((wr.cell? ⟨w.heap.size + 1, 0, none⟩).getD undef)).toNat)
 case atStart => exact ⟨k, by omega, HL, rfl⟩
 case round =>
  clear HL
  obtain ⟨q, hq1, hu, rfl⟩ := hrel
  cases q with
  | zero =>
   have HZ : Hid (0 = L) := hu.out
   clear hu
   go_wp2
   go_loopw [46] (fun _ wr => ∃ z : Nat, k ≤ z ∧ z ≤ s.size ∧ Hid (Nib.up (fun i => cls (bt s i) g == C) s.size z = R) ∧ wr = ((w.alloc (.cells #[.int .i64 0, .int .i64 0] 128)).alloc (.cells #[.int .i64 (0), .int .i64 z] 128))) (fun _ wr => s.size - (intOf ((wr.cell? ⟨w.heap.size + 1, 1, none⟩).getD undef)).toNat)
   case atStart => exact ⟨k, by omega, by omega, HR, rfl⟩
   case round =>
    clear HR
    obtain ⟨r, hr1, hr2, hu, rfl⟩ := hrel
    by_cases hlt : r < s.size
    ·by_cases hc : (cls (bt s r) g == C) = true
     ·exact qt54
     ·have HZ2 : Hid (r = R) := by rw [Hid, ← hu.out, up_stop]; exact fun h => hc h.2
      have HC : Hid ((cls (((s[r]'hlt).toNat : Nat) : Int) g == C) = false) := by rw [Hid, ← bt_in hlt]; simpa using hc
      clear hu hc
      go_wp2_with fail
      refine (tClass_any _ g _).mono ?_
      rintro e w' ⟨rfl, rfl⟩
      generalize cls (((s[r]'hlt).toNat : Nat) : Int) g = D at *
      have HC' := HC.out
      go_wp2
      refine bodyPost_ret (v := .agg #[.int .i64 (0), .int .i64 (r)]) (by simp [results, results256, go_sem]) rfl ⟨by rw [← HZ.out, ← HZ2.out]; rfl, ?_⟩
      exact qB
    ·have HZ2 : Hid (r = R) := by rw [Hid, ← hu.out, up_stop]; exact fun h => hlt h.1
     clear hu
     go_wp2
     refine bodyPost_ret (v := .agg #[.int .i64 (0), .int .i64 (r)]) (by simp [results, results256, go_sem]) rfl ⟨by rw [← HZ.out, ← HZ2.out]; rfl, ?_⟩
     exact qB
  | succ q =>
   have hq : q < s.size := by omega
   by_cases hc : (cls (bt s q) g == C) = true
   ·have HS : Hid (Nib.dn (fun i => cls (bt s i) g == C) q = L) := by rw [Hid, ← hu.out, dn_step hc]
    have HC : Hid ((cls (((s[q]'hq).toNat : Nat) : Int) g == C) = true) := by rw [Hid, ← bt_in hq]; exact hc
    clear hu hc
    go_wp2_with fail
    refine (tClass_any _ g _).mono ?_
    rintro e w' ⟨rfl, rfl⟩
    generalize cls (((s[q]'hq).toNat : Nat) : Int) g = D at *
    have HC' := HC.out
    go_wp2
    go_round
    case rel => exact ⟨q, by omega, HS, by simp⟩
    case measure => go_simp; simp [intOf] <;> omega
   ·have HZ : Hid (q + 1 = L) := by rw [Hid, ← hu.out, dn_stop (by simpa using hc)]
    have HC : Hid ((cls (((s[q]'hq).toNat : Nat) : Int) g == C) = false) := by rw [Hid, ← bt_in hq]; simpa using hc
    clear hu hc
    go_wp2_with fail
    refine (tClass_any _ g _).mono ?_
    rintro e w' ⟨rfl, rfl⟩
    generalize cls (((s[q]'hq).toNat : Nat) : Int) g = D at *
    have HC' := HC.out
    go_wp2
    go_loopw [46] (fun _ wr => ∃ z : Nat, k ≤ z ∧ z ≤ s.size ∧ Hid (Nib.up (fun i => cls (bt s i) g == C) s.size z = R) ∧ wr = ((w.alloc (.cells #[.int .i64 0, .int .i64 0] 128)).alloc (.cells #[.int .i64 ((q : Int) + 1), .int .i64 z] 128))) (fun _ wr => s.size - (intOf ((wr.cell? ⟨w.heap.size + 1, 1, none⟩).getD undef)).toNat)
    case atStart => exact ⟨k, by omega, by omega, HR, rfl⟩
    case round =>
     clear HR
     obtain ⟨r, hr1, hr2, hu, rfl⟩ := hrel
     by_cases hlt : r < s.size
     ·by_cases hc : (cls (bt s r) g == C) = true
      ·exact qt54
      ·have HZ2 : Hid (r = R) := by rw [Hid, ← hu.out, up_stop]; exact fun h => hc h.2
       have HC : Hid ((cls (((s[r]'hlt).toNat : Nat) : Int) g == C) = false) := by rw [Hid, ← bt_in hlt]; simpa using hc
       clear hu hc
       go_wp2_with fail
       refine (tClass_any _ g _).mono ?_
       rintro e w' ⟨rfl, rfl⟩
       generalize cls (((s[r]'hlt).toNat : Nat) : Int) g = D at *
       have HC' := HC.out
       go_wp2
       refine bodyPost_ret (v := .agg #[.int .i64 ((q : Int) + 1), .int .i64 (r)]) (by simp [results, results256, go_sem]) rfl ⟨by rw [← HZ.out, ← HZ2.out]; rfl, ?_⟩
       exact qB
     ·have HZ2 : Hid (r = R) := by rw [Hid, ← hu.out, up_stop]; exact fun h => hlt h.1
      clear hu
      go_wp2
      refine bodyPost_ret (v := .agg #[.int .i64 ((q : Int) + 1), .int .i64 (r)]) (by simp [results, results256, go_sem]) rfl ⟨by rw [← HZ.out, ← HZ2.out]; rfl, ?_⟩
      exact qB
theorem ix0 (a b : Int) (w : World) : (Instr.index 128 (.agg #[.int .i64 (a), .int .i64 (b)]) (.int .i64 0)).run Tryz.prog w = .ok (.int .i64 a) w := by
 simp [Instr.index, run_underlying underlying128, asIntOf, go_sem, part]
theorem ix1 (a b : Int) (w : World) : (Instr.index 128 (.agg #[.int .i64 (a), .int .i64 (b)]) (.int .i64 1)).run Tryz.prog w = .ok (.int .i64 b) w := by
 simp [Instr.index, run_underlying underlying128, asIntOf, go_sem, part]
theorem tRun_none (s : ByteArray) (p : Int) (k : Nat) (g : Bool) (w : World) (hs : s.size ≤ 1000) (e : p = k) (hk : k ≤ s.size) (hn : ∀ h : k < s.size, bt s k = 10) :
  qC 256 #[.string s, .int .i64 p, .bool g] w (.agg #[.int .i64 (k), .int .i64 (k)]) := by
 subst e
 by_cases h : k < s.size
 ·have hc' : (((s[k]'h).toNat : Int) == 10) = true := by rw [← bt_in h]; simp [hn h]
  go_enter func256, ntmps256
  go_wp2
  refine bodyPost_ret (v := .agg #[.int .i64 (k), .int .i64 (k)]) (by simp [results, results256, go_sem]) rfl ⟨rfl, ?_⟩
  exact qB
 ·have e : k = s.size := by omega
  subst e
  clear hn
  go_enter func256, ntmps256
  go_wp2
  refine bodyPost_ret (v := .agg #[.int .i64 (s.size), .int .i64 (s.size)]) (by simp [results, results256, go_sem]) rfl ⟨rfl, ?_⟩
  exact qB
theorem qt28 {P : Prop} (h : P := by
  generalize max ((beg s k : Nat) : Int) (((fin s k : Nat) : Int) - 1) = M at *
  generalize frs s k = R at *
  generalize ind s k = I at *
  generalize beg s k = B at *
  generalize fin s k = F at *
  have HF' : Hid ((R : Int) = min (I : Int) M) := HF
  clear HF
  have hx := ix1 B I
  go_enter func243, ntmps243
  go_wp2_with fail
  go_region_held3 (fun ww => ww.cell? ⟨w.heap.size, 0, none⟩ = some (.int .i64 B) ∧ ww.cell? ⟨w.heap.size, 1, none⟩ = some (.int .i64 F)) ((refine ⟨?_, ?_⟩ <;> go_simp)) (first | (go_at_call 187; refine (HI.out _).mono ?_; rintro r1 w1 ⟨rfl, h1⟩; obtain ⟨hc1, hf1, hz1⟩ := qb h1; (try simp at hz1); (try have ⟨hl1_0, hk1_0⟩ := qL w.heap.size w1.heap.size)) | (go_at_call 202; refine (HL.out _).mono ?_; rintro r2 w2 ⟨rfl, h2⟩; obtain ⟨hc2, hf2, hz2⟩ := qb h2; (try simp at hz2); (try have ⟨hl2_0, hk2_0⟩ := qL w.heap.size w2.heap.size)))
  go_wp2
  all_goals
   first
    | (refine bodyPost_ret (v := .int .i64 M) (by simp [results, results243, go_sem]) rfl ⟨ret_int (by rw [HF'.out]; omega), ?_⟩ <;> exact qB)
    | (refine bodyPost_ret (v := .int .i64 I) (by simp [results, results243, go_sem]) rfl ⟨ret_int (by rw [HF'.out]; omega), ?_⟩ <;> exact qB)
 ) : P := h
theorem tFirst_any (s : ByteArray) (a b : Int) (k : Nat) (w : World) (hs : s.size ≤ 1000) (hk : k ≤ s.size) (ea : a = beg s k) (eb : b = fin s k) :
  qC 243 #[.string s, .agg #[.int .i64 (a), .int .i64 (b)]] w (.int .i64 (frs s k)) := by
 subst ea eb
 have hf := fin_le hk
 have HF := frs_min s k hk
 rw [lst_max] at HF
 have HI : qH 187 #[.string s, .agg #[.int .i64 (beg s k), .int .i64 (fin s k)]] (.agg #[.int .i64 (beg s k), .int .i64 (ind s k)]) := fun ww => tIndent_any s _ _ k ww hs hk rfl rfl
 have HL : qH 202 #[.agg #[.int .i64 (beg s k), .int .i64 (fin s k)]] (.int .i64 (max ((beg s k : Nat) : Int) (((fin s k : Nat) : Int) - 1))) := fun ww => tLast_any _ _ ww qo
 exact qt28
theorem tEnd_any (s : ByteArray) (w : World) :
  Calls Tryz.prog 246 #[.string s] w fun e w' => e = .returned (.int .i64 s.size) ∧ w' = w := by
 go_enter func246, ntmps246
 go_wp2
 go_ret
 exact ⟨rfl, rfl⟩
theorem sNumber_any (s : ByteArray) (p n : Int) (v c : Bool) (w : World) :
  qC 241 #[.agg #[.string s, .int .i64 (p), .int .i64 (n), .bool v, .bool c]] w (.int .i64 (max n 1)) := by
 go_enter func241, ntmps241
 go_wp2
 all_goals
  first
   | (refine bodyPost_ret (v := .int .i64 n) (by simp [results, results241, go_sem]) rfl ⟨ret_int qo, ?_⟩ <;> exact qB)
   | (refine bodyPost_ret (v := .int .i64 1) (by simp [results, results241, go_sem]) rfl ⟨ret_int qo, ?_⟩ <;> exact qB)
theorem sLine_any (s : ByteArray) (p n : Int) (v c : Bool) (k : Nat) (w : World) (hs : s.size ≤ 1000) (e : p = k) (hk : k ≤ s.size) :
  qC 239 #[.agg #[.string s, .int .i64 (p), .int .i64 (n), .bool v, .bool c]] w (.agg #[.int .i64 (beg s k), .int .i64 (fin s k)]) := by
 subst e
 have HL : qH 195 #[.string s, .int .i64 k] (.agg #[.int .i64 (beg s k), .int .i64 (fin s k)]) := fun ww => tLine_any s k k ww hs rfl hk
 generalize beg s k = B at *
 generalize fin s k = F at *
 go_enter func239, ntmps239
 go_wp2_with fail
 refine (HL.out _).mono ?_
 rintro e w1 ⟨rfl, h1⟩
 obtain ⟨hc1, hf1, hz1⟩ := qb h1
 try simp at hz1
 go_wp2
 refine bodyPost_ret (v := .agg #[.int .i64 (B), .int .i64 (F)]) (by simp [results, results239, go_sem, hc1]) rfl ⟨rfl, ?_⟩
 exact qB
def wayX (r : Int × Int × Bool) : Int := if r.2.2 = true then 0 else r.1
def wayK (r : Int × Int × Bool) : Int := if r.2.2 = true then 0 else r.2.1
def wayZ (r : Int × Int × Bool) : Bool := !r.2.2
theorem wayX_t (a b : Int) : wayX (a, b, true) = 0 := rfl
theorem wayK_t (a b : Int) : wayK (a, b, true) = 0 := rfl
theorem wayZ_t (a b : Int) : wayZ (a, b, true) = false := rfl
theorem wayX_f (a b : Int) : wayX (a, b, false) = a := rfl
theorem wayK_f (a b : Int) : wayK (a, b, false) = b := rfl
theorem wayZ_f (a b : Int) : wayZ (a, b, false) = true := rfl
def wayEq (r t : Int × Int × Bool) : Prop := r.2.2 = t.2.2 ∧ (r.2.2 = false → r.1 = t.1 ∧ r.2.1 = t.2.1)
theorem wayEq.all {r t : Int × Int × Bool} (h : wayEq r t) : wayX r = wayX t ∧ wayK r = wayK t ∧ wayZ r = wayZ t := by
 obtain ⟨a, b, c⟩ := r
 obtain ⟨a', b', c'⟩ := t
 obtain ⟨h1, h2⟩ := h
 simp only at h1 h2
 subst h1
 cases c with
 | true => exact ⟨rfl, rfl, rfl⟩
 | false => obtain ⟨rfl, rfl⟩ := h2 rfl; exact ⟨rfl, rfl, rfl⟩
theorem sUnless_any (s : ByteArray) (p n q kind : Int) (v c : Bool) (w : World) :
  qC 240 #[.agg #[.string s, .int .i64 (p), .int .i64 (n), .bool v, .bool c], .int .i64 q, .int .i64 kind] w (.tuple #[.agg #[.int .i64 (wayX ((q, kind, q == p))), .int .i64 (wayK ((q, kind, q == p)))], .bool (wayZ ((q, kind, q == p)))]) := by
 by_cases h : q = p
 ·subst h
  simp only [beq_self_eq_true, wayX_t, wayK_t, wayZ_t]
  go_enter func240, ntmps240
  go_wp2
  refine bodyPost_ret (v := .tuple #[.agg #[.int .i64 0, .int .i64 0], .bool false]) (by simp [results, results240, go_sem]) rfl ⟨rfl, ?_⟩
  exact qB
 ·have hb : (q == p) = false := by simp [h]
  rw [hb, wayX_f, wayK_f, wayZ_f]
  go_enter func240, ntmps240
  go_wp2
  refine bodyPost_ret (v := .tuple #[.agg #[.int .i64 q, .int .i64 kind], .bool true]) (by simp [results, results240, go_sem]) rfl ⟨rfl, ?_⟩
  exact qB
theorem sUnless_way {r : Int × Int × Bool} (s : ByteArray) (p n q kind : Int) (v c : Bool) (w : World) (h : wayEq (q, kind, q == p) r) :
  qC 240 #[.agg #[.string s, .int .i64 (p), .int .i64 (n), .bool v, .bool c], .int .i64 q, .int .i64 kind] w (.tuple #[.agg #[.int .i64 (wayX (r)), .int .i64 (wayK (r))], .bool (wayZ (r))]) := by
 have := sUnless_any s p n q kind v c w
 rwa [h.all.1, h.all.2.1, h.all.2.2] at this
theorem sHasInk_any (s : ByteArray) (p : Int) (k : Nat) (w : World) (hs : s.size ≤ 1000) (e : p = k) (hk : k ≤ s.size) :
  Calls Tryz.prog 247 #[.string s, .int .i64 p] w fun e w' => e = .returned (.bool (decide (k < s.size) && !spc (bt s k))) ∧ w' = w := by
 subst e
 by_cases h : k < s.size
 ·have HC : Hid ((decide (k < s.size) && !spc (bt s k)) = decide (2 ≤ cls (bt s k) false)) := by
   rw [Hid]; simp only [h, decide_true, Bool.true_and]
   cases hq : spc (bt s k) with
   | true => have := cls_spc (g := false) hq; simp; omega
   | false => have := cls_nsp (g := false) hq; simp; omega
  have hlo := cls_lo (bt s k) false
  have hhi := cls_hi (bt s k) false
  rw [HC.out]
  clear HC
  rw [bt_in h] at *
  have hne : ((k : Int) == (s.size : Int)) = false := by simp; omega
  have HT : Hid (∀ ww, Calls Tryz.prog 225 #[.int .u8 (((s[k]'h).toNat : Nat) : Int), .bool false] ww fun e w' => e = .returned (.int .i64 (cls (((s[k]'h).toNat : Nat) : Int) false)) ∧ w' = ww) := fun ww => tClass_any _ false ww
  generalize cls (((s[k]'h).toNat : Nat) : Int) false = C at *
  go_enter func247, ntmps247
  go_wp2_with fail
  refine (tEnd_any s _).mono ?_
  rintro e w' ⟨rfl, rfl⟩
  go_wp2_with fail
  refine (HT.out _).mono ?_
  rintro e w' ⟨rfl, rfl⟩
  go_wp2
  all_goals
   go_ret
   exact ⟨ret_bool (by rw [Bool.eq_iff_iff]; simp; omega), rfl⟩
 ·have e : k = s.size := by omega
  subst e
  simp only [Nat.lt_irrefl, decide_false, Bool.false_and]
  go_enter func247, ntmps247
  go_wp2
  go_ret
  exact ⟨rfl, rfl⟩
theorem sFurthest_any (s : ByteArray) (p n a b : Int) (v c : Bool) (w : World) (hb : -5000 ≤ b ∧ b ≤ 5000) :
  qC 242 #[.agg #[.string s, .int .i64 (p), .int .i64 (n), .bool v, .bool c], .agg #[.int .i64 (a), .int .i64 (b)]] w (.int .i64 (if v = true then b else max a (b - 1))) := by
 cases v with
 | true =>
  go_enter func242, ntmps242
  go_wp2
  refine bodyPost_ret (v := .int .i64 b) (by simp [results, results242, go_sem]) rfl ⟨rfl, ?_⟩
  exact qB
 | false =>
  have HL : qH 202 #[.agg #[.int .i64 (a), .int .i64 (b)]] (.int .i64 (max a (b - 1))) := fun ww => tLast_any a b ww hb
  generalize max a (b - 1) = M at *
  go_enter func242, ntmps242
  go_wp2_with fail
  refine (HL.out _).mono ?_
  rintro e w1 ⟨rfl, h1⟩
  obtain ⟨hc1, hf1, hz1⟩ := qb h1
  try simp at hz1
  go_wp2
  refine bodyPost_ret (v := .int .i64 M) (by simp [results, results242, go_sem]) rfl ⟨rfl, ?_⟩
  exact qB
theorem sInLine_h (s : ByteArray) (p n : Nat) (v c : Bool) (w : World) (hs : s.size ≤ 1000) (hp : p ≤ s.size) (hn : n ≤ 99) :
  qC 205 #[.agg #[.string s, .int .i64 (p), .int .i64 (n), .bool v, .bool c], .int .u8 104] w (.tuple #[.agg #[.int .i64 (wayX (wayH s p (max n 1))), .int .i64 (wayK (wayH s p (max n 1)))], .bool (wayZ (wayH s p (max n 1)))]) := by
 have HL : qH 239 #[.agg #[.string s, .int .i64 (p), .int .i64 (n), .bool v, .bool c]] (.agg #[.int .i64 (beg s p), .int .i64 (fin s p)]) := fun ww => sLine_any s p n v c p ww hs rfl hp
 have HN : qH 241 #[.agg #[.string s, .int .i64 (p), .int .i64 (n), .bool v, .bool c]] (.int .i64 (max (n : Int) 1)) := fun ww => sNumber_any s p n v c ww
 have HR : Hid (wayH s p (max n 1) = (if (p : Int) - max (n : Int) 1 < beg s p then (beg s p : Int) else (p : Int) - max (n : Int) 1, 0, (p : Int) == (beg s p : Int))) := by
  have : ((max n 1 : Nat) : Int) = max (n : Int) 1 := by omega
  rw [Hid, wayH, this]
 generalize wayH s p (max n 1) = R at *
 have hN1 : 1 ≤ max (n : Int) 1 := by omega
 have hN2 : max (n : Int) 1 ≤ 99 := by omega
 generalize max (n : Int) 1 = N at *
 have hb := beg_le s p
 generalize beg s p = B at *
 generalize fin s p = F at *
 have hw : IntKind.i64.wrap ((p : Int) - N) = (p : Int) - N := by rw [IntKind.wrap_i64]; omega
 have HU : qH 240 #[.agg #[.string s, .int .i64 (p), .int .i64 (n), .bool v, .bool c], .int .i64 (if (p : Int) - N < B then (B : Int) else (p : Int) - N), .int .i64 0] (.tuple #[.agg #[.int .i64 (wayX (R)), .int .i64 (wayK (R))], .bool (wayZ (R))]) := by
  intro ww
  refine sUnless_way s p n _ 0 v c ww ?_
  rw [HR.out]
  refine ⟨?_, fun _ => ⟨rfl, rfl⟩⟩
  simp only
  rw [Bool.eq_iff_iff]; simp only [beq_iff_eq]
  split <;> omega
 clear HR
 generalize hX : (if (p : Int) - N < B then (B : Int) else (p : Int) - N) = X at HU
 go_enter func205, ntmps205
 go_wp2_with fail
 refine (HL.out _).mono ?_
 rintro e w1 ⟨rfl, h1⟩
 obtain ⟨hc1, hf1, hz1⟩ := qb h1
 try simp at hz1
 have hb1_0 := fun o => hc1 (w.heap.size) o qO
 have fb1_0 := fun o => hf1 (w.heap.size) o qO
 have ⟨hg1_0, hh1_0⟩ := qL w.heap.size w1.heap.size
 have hb1_1 := fun o => hc1 (w.heap.size + 1) o qO
 have fb1_1 := fun o => hf1 (w.heap.size + 1) o qO
 have ⟨hg1_1, hh1_1⟩ := qL (w.heap.size + 1) w1.heap.size
 go_wp2_with fail
 go_region_held3 (fun ww => ww.cell? ⟨w.heap.size, 0, none⟩ = some (.string s) ∧ ww.cell? ⟨w.heap.size, 1, none⟩ = some (.int .i64 p) ∧ ww.cell? ⟨w.heap.size, 2, none⟩ = some (.int .i64 n) ∧ ww.cell? ⟨w.heap.size, 3, none⟩ = some (.bool v) ∧ ww.cell? ⟨w.heap.size, 4, none⟩ = some (.bool c) ∧ ww.cell? ⟨w1.heap.size, 0, none⟩ = some (.int .i64 B) ∧ ww.cell? ⟨w1.heap.size, 1, none⟩ = some (.int .i64 F)) ((refine ⟨?_, ?_, ?_, ?_, ?_, ?_, ?_⟩ <;> go_simp)) (first | (go_at_call 241; refine (HN.out _).mono ?_; rintro r2 w2 ⟨rfl, h2⟩; obtain ⟨hc2, hf2, hz2⟩ := qb h2; (try simp at hz2); (try have ⟨hl2_0, hk2_0⟩ := qL w.heap.size w2.heap.size); (try have ⟨hl2_1, hk2_1⟩ := qL w1.heap.size w2.heap.size); have hb2_0 := fun o => hc2 (w.heap.size + 1) o qO; have fb2_0 := fun o => hf2 (w.heap.size + 1) o qO; (try have ⟨hg2_0, hh2_0⟩ := qL (w.heap.size + 1) w2.heap.size)) | (go_at_call 240; refine (HU.out _).mono ?_; rintro r3 w3 ⟨rfl, h3⟩; obtain ⟨hc3, hf3, hz3⟩ := qb h3; (try simp at hz3); (try have ⟨hl3_0, hk3_0⟩ := qL w.heap.size w3.heap.size); (try have ⟨hl3_1, hk3_1⟩ := qL w1.heap.size w3.heap.size); have hb3_0 := fun o => hc3 (w.heap.size + 1) o qO; have fb3_0 := fun o => hf3 (w.heap.size + 1) o qO; (try have ⟨hg3_0, hh3_0⟩ := qL (w.heap.size + 1) w3.heap.size)))
 go_wp2
 all_goals
  first
   | (refine bodyPost_ret (v := .tuple #[.agg #[.int .i64 (wayX (R)), .int .i64 (wayK (R))], .bool (wayZ (R))]) (by simp [results, results205, go_sem, hb1_1, hb2_0, hb3_0, hg1_1, hg2_0, hg3_0]) rfl ⟨rfl, ?_⟩ <;> exact qB)
theorem sInLine_l (s : ByteArray) (p n : Nat) (v c : Bool) (w : World) (hs : s.size ≤ 1000) (hp : p ≤ s.size) (hn : n ≤ 99) (hl : p ≤ mostL s p v) :
  qC 205 #[.agg #[.string s, .int .i64 (p), .int .i64 (n), .bool v, .bool c], .int .u8 108] w (.tuple #[.agg #[.int .i64 (wayX (wayL s p (max n 1) v)), .int .i64 (wayK (wayL s p (max n 1) v))], .bool (wayZ (wayL s p (max n 1) v))]) := by
 have hf := fin_le hp
 have HL : qH 239 #[.agg #[.string s, .int .i64 (p), .int .i64 (n), .bool v, .bool c]] (.agg #[.int .i64 (beg s p), .int .i64 (fin s p)]) := fun ww => sLine_any s p n v c p ww hs rfl hp
 have HN : qH 241 #[.agg #[.string s, .int .i64 (p), .int .i64 (n), .bool v, .bool c]] (.int .i64 (max (n : Int) 1)) := fun ww => sNumber_any s p n v c ww
 have HM : qH 242 #[.agg #[.string s, .int .i64 (p), .int .i64 (n), .bool v, .bool c], .agg #[.int .i64 (beg s p), .int .i64 (fin s p)]] (.int .i64 (mostL s p v : Nat)) := by
  intro ww
  have := sFurthest_any s p n (beg s p) (fin s p) v c ww qo
  have e : ((mostL s p v : Nat) : Int) = if v = true then ((fin s p : Nat) : Int) else max ((beg s p : Nat) : Int) (((fin s p : Nat) : Int) - 1) := by
   unfold mostL; rw [← lst_max]; split <;> rfl
  rw [e]; exact this
 have HR : Hid (wayL s p (max n 1) v = (if (mostL s p v : Int) < (p : Int) + max (n : Int) 1 then (mostL s p v : Int) else (p : Int) + max (n : Int) 1, 0, decide ((if (mostL s p v : Int) < (p : Int) + max (n : Int) 1 then (mostL s p v : Int) else (p : Int) + max (n : Int) 1) ≤ (p : Int)))) := by
  have : ((max n 1 : Nat) : Int) = max (n : Int) 1 := by omega
  rw [Hid, wayL, this]
 generalize wayL s p (max n 1) v = R at *
 have hN1 : 1 ≤ max (n : Int) 1 := by omega
 have hN2 : max (n : Int) 1 ≤ 99 := by omega
 generalize max (n : Int) 1 = N at *
 generalize mostL s p v = M at *
 generalize beg s p = B at *
 generalize fin s p = F at *
 have hw : IntKind.i64.wrap ((p : Int) + N) = (p : Int) + N := by rw [IntKind.wrap_i64]; omega
 have HU : qH 240 #[.agg #[.string s, .int .i64 (p), .int .i64 (n), .bool v, .bool c], .int .i64 (if (M : Int) < (p : Int) + N then (M : Int) else (p : Int) + N), .int .i64 0] (.tuple #[.agg #[.int .i64 (wayX (R)), .int .i64 (wayK (R))], .bool (wayZ (R))]) := by
  intro ww
  refine sUnless_way s p n _ 0 v c ww ?_
  rw [HR.out]
  refine ⟨?_, fun _ => ⟨rfl, rfl⟩⟩
  simp only
  rw [Bool.eq_iff_iff]; simp only [beq_iff_eq, decide_eq_true_eq]
  split <;> omega
 clear HR
 generalize hX : (if (M : Int) < (p : Int) + N then (M : Int) else (p : Int) + N) = X at HU
 go_enter func205, ntmps205
 go_wp2_with fail
 refine (HL.out _).mono ?_
 rintro e w1 ⟨rfl, h1⟩
 obtain ⟨hc1, hf1, hz1⟩ := qb h1
 try simp at hz1
 have hb1_0 := fun o => hc1 (w.heap.size) o qO
 have fb1_0 := fun o => hf1 (w.heap.size) o qO
 have ⟨hg1_0, hh1_0⟩ := qL w.heap.size w1.heap.size
 have hb1_1 := fun o => hc1 (w.heap.size + 1) o qO
 have fb1_1 := fun o => hf1 (w.heap.size + 1) o qO
 have ⟨hg1_1, hh1_1⟩ := qL (w.heap.size + 1) w1.heap.size
 go_wp2_with fail
 go_region_held3 (fun ww => ww.cell? ⟨w.heap.size, 0, none⟩ = some (.string s) ∧ ww.cell? ⟨w.heap.size, 1, none⟩ = some (.int .i64 p) ∧ ww.cell? ⟨w.heap.size, 2, none⟩ = some (.int .i64 n) ∧ ww.cell? ⟨w.heap.size, 3, none⟩ = some (.bool v) ∧ ww.cell? ⟨w.heap.size, 4, none⟩ = some (.bool c) ∧ ww.cell? ⟨w1.heap.size, 0, none⟩ = some (.int .i64 B) ∧ ww.cell? ⟨w1.heap.size, 1, none⟩ = some (.int .i64 F)) ((refine ⟨?_, ?_, ?_, ?_, ?_, ?_, ?_⟩ <;> go_simp)) (first | (go_at_call 241; refine (HN.out _).mono ?_; rintro r2 w2 ⟨rfl, h2⟩; obtain ⟨hc2, hf2, hz2⟩ := qb h2; (try simp at hz2); (try have ⟨hl2_0, hk2_0⟩ := qL w.heap.size w2.heap.size); (try have ⟨hl2_1, hk2_1⟩ := qL w1.heap.size w2.heap.size); have hb2_0 := fun o => hc2 (w.heap.size + 1) o qO; have fb2_0 := fun o => hf2 (w.heap.size + 1) o qO; (try have ⟨hg2_0, hh2_0⟩ := qL (w.heap.size + 1) w2.heap.size)) | (go_at_call 242; refine (HM.out _).mono ?_; rintro r3 w3 ⟨rfl, h3⟩; obtain ⟨hc3, hf3, hz3⟩ := qb h3; (try simp at hz3); (try have ⟨hl3_0, hk3_0⟩ := qL w.heap.size w3.heap.size); (try have ⟨hl3_1, hk3_1⟩ := qL w1.heap.size w3.heap.size); have hb3_0 := fun o => hc3 (w.heap.size + 1) o qO; have fb3_0 := fun o => hf3 (w.heap.size + 1) o qO; (try have ⟨hg3_0, hh3_0⟩ := qL (w.heap.size + 1) w3.heap.size)) | (go_at_call 240; refine (HU.out _).mono ?_; rintro r4 w4 ⟨rfl, h4⟩; obtain ⟨hc4, hf4, hz4⟩ := qb h4; (try simp at hz4); (try have ⟨hl4_0, hk4_0⟩ := qL w.heap.size w4.heap.size); (try have ⟨hl4_1, hk4_1⟩ := qL w1.heap.size w4.heap.size); have hb4_0 := fun o => hc4 (w.heap.size + 1) o qO; have fb4_0 := fun o => hf4 (w.heap.size + 1) o qO; (try have ⟨hg4_0, hh4_0⟩ := qL (w.heap.size + 1) w4.heap.size)))
 go_wp2
 all_goals
  first
   | (refine bodyPost_ret (v := .tuple #[.agg #[.int .i64 (wayX (R)), .int .i64 (wayK (R))], .bool (wayZ (R))]) (by simp [results, results205, go_sem, hb1_1, hb2_0, hb3_0, hb4_0, hg1_1, hg2_0, hg3_0, hg4_0]) rfl ⟨rfl, ?_⟩ <;> exact qB)
theorem sInLine_0 (s : ByteArray) (p n : Nat) (v c : Bool) (w : World) (hs : s.size ≤ 1000) (hp : p ≤ s.size) :
  qC 205 #[.agg #[.string s, .int .i64 (p), .int .i64 (n), .bool v, .bool c], .int .u8 48] w (.tuple #[.agg #[.int .i64 (wayX (((beg s p : Int), 0, false))), .int .i64 (wayK (((beg s p : Int), 0, false)))], .bool (wayZ (((beg s p : Int), 0, false)))]) := by
 have HL : qH 239 #[.agg #[.string s, .int .i64 (p), .int .i64 (n), .bool v, .bool c]] (.agg #[.int .i64 (beg s p), .int .i64 (fin s p)]) := fun ww => sLine_any s p n v c p ww hs rfl hp
 rw [wayX_f, wayK_f, wayZ_f]
 generalize beg s p = B at *
 generalize fin s p = F at *
 go_enter func205, ntmps205
 go_wp2_with fail
 refine (HL.out _).mono ?_
 rintro e w1 ⟨rfl, h1⟩
 obtain ⟨hc1, hf1, hz1⟩ := qb h1
 try simp at hz1
 have hb1_0 := fun o => hc1 (w.heap.size) o qO
 have fb1_0 := fun o => hf1 (w.heap.size) o qO
 have ⟨hg1_0, hh1_0⟩ := qL w.heap.size w1.heap.size
 have hb1_1 := fun o => hc1 (w.heap.size + 1) o qO
 have fb1_1 := fun o => hf1 (w.heap.size + 1) o qO
 have ⟨hg1_1, hh1_1⟩ := qL (w.heap.size + 1) w1.heap.size
 go_wp2
 all_goals
  first
   | (exact qV (.tuple #[.agg #[.int .i64 B, .int .i64 0], .bool true]) (by simp [results, results205, go_sem, hb1_1, hg1_1]) rfl)
theorem sInLine_hat (s : ByteArray) (p n : Nat) (v c : Bool) (w : World) (hs : s.size ≤ 1000) (hp : p ≤ s.size) :
  qC 205 #[.agg #[.string s, .int .i64 (p), .int .i64 (n), .bool v, .bool c], .int .u8 94] w (.tuple #[.agg #[.int .i64 (wayX (((frs s p : Int), 0, false))), .int .i64 (wayK (((frs s p : Int), 0, false)))], .bool (wayZ (((frs s p : Int), 0, false)))]) := by
 have HL : qH 239 #[.agg #[.string s, .int .i64 (p), .int .i64 (n), .bool v, .bool c]] (.agg #[.int .i64 (beg s p), .int .i64 (fin s p)]) := fun ww => sLine_any s p n v c p ww hs rfl hp
 have HF : qH 243 #[.string s, .agg #[.int .i64 (beg s p), .int .i64 (fin s p)]] (.int .i64 (frs s p)) := fun ww => tFirst_any s _ _ p ww hs hp rfl rfl
 rw [wayX_f, wayK_f, wayZ_f]
 generalize frs s p = R at *
 generalize beg s p = B at *
 generalize fin s p = F at *
 go_enter func205, ntmps205
 go_wp2_with fail
 refine (HL.out _).mono ?_
 rintro e w1 ⟨rfl, h1⟩
 obtain ⟨hc1, hf1, hz1⟩ := qb h1
 try simp at hz1
 have hb1_0 := fun o => hc1 (w.heap.size) o qO
 have fb1_0 := fun o => hf1 (w.heap.size) o qO
 have ⟨hg1_0, hh1_0⟩ := qL w.heap.size w1.heap.size
 have hb1_1 := fun o => hc1 (w.heap.size + 1) o qO
 have fb1_1 := fun o => hf1 (w.heap.size + 1) o qO
 have ⟨hg1_1, hh1_1⟩ := qL (w.heap.size + 1) w1.heap.size
 go_wp2_with fail
 refine (HF.out _).mono ?_
 rintro e w2 ⟨rfl, h2⟩
 obtain ⟨hc2, hf2, hz2⟩ := qb h2
 try simp at hz2
 have hb2_0 := fun o => hc2 (w.heap.size) o qO
 have fb2_0 := fun o => hf2 (w.heap.size) o qO
 have ⟨hg2_0, hh2_0⟩ := qL w.heap.size w2.heap.size
 have hb2_1 := fun o => hc2 (w.heap.size + 1) o qO
 have fb2_1 := fun o => hf2 (w.heap.size + 1) o qO
 have ⟨hg2_1, hh2_1⟩ := qL (w.heap.size + 1) w2.heap.size
 go_wp2
 all_goals
  first
   | (exact qV (.tuple #[.agg #[.int .i64 R, .int .i64 0], .bool true]) (by simp [results, results205, go_sem, hb1_1, hg1_1, hb2_1, hg2_1]) rfl)
theorem qt46 {P : Prop} (h : P := by
  intro ww
  have := sNumber_any s p n v c ww
  rw [show max (n : Int) 1 = ((max n 1 : Nat) : Int) by omega] at this
  exact this
 ) : P := h
theorem sLineEnd_any (s : ByteArray) (p n : Nat) (v c : Bool) (w : World) (hs : s.size ≤ 1000) (hp : p ≤ s.size) (hn : n ≤ 99) :
  qC 244 #[.agg #[.string s, .int .i64 (p), .int .i64 (n), .bool v, .bool c]] w (.tuple #[.agg #[.int .i64 (wayX (wayEol s p (max n 1))), .int .i64 (wayK (wayEol s p (max n 1)))], .bool (wayZ (wayEol s p (max n 1)))]) := by
 have hm := lin_lt hp
 have HL : qH 239 #[.agg #[.string s, .int .i64 (p), .int .i64 (n), .bool v, .bool c]] (.agg #[.int .i64 (att s (lin s p)), .int .i64 (fin s (att s (lin s p)))]) := by
  intro ww
  have := sLine_any s p n v c p ww hs rfl hp
  rw [fin_eq hp, beg_eq hp] at this
  exact this
 have HN : qH 241 #[.agg #[.string s, .int .i64 (p), .int .i64 (n), .bool v, .bool c]] (.int .i64 ((max n 1 : Nat) : Int)) := by
  exact qt46
 have hN1 : 1 ≤ max n 1 := by omega
 have hN2 : max n 1 ≤ 99 := by omega
 generalize max n 1 = N at *
 have HD : qH 180 #[.string s, .agg #[.int .i64 (att s (lin s p)), .int .i64 (fin s (att s (lin s p)))], .int .i64 ((N : Int) - 1), .int .i64 1] (.tuple #[.agg #[.int .i64 (att s (min (lin s p + (N - 1)) (lns s - 1))), .int .i64 (fin s (att s (min (lin s p + (N - 1)) (lns s - 1))))], .int .i64 ((min (N - 1) (lns s - 1 - lin s p) : Nat) : Int)]) := by
  intro ww
  exact tFurther_down s _ _ _ _ (lin s p) (N - 1) ww hs hm rfl rfl qo rfl qo
 have hR : min (lin s p + (N - 1)) (lns s - 1) < lns s := by omega
 have hF := fin_le (att_in hR).1
 have HZ : Hid (wayEol s p N = if ((min (N - 1) (lns s - 1 - lin s p) : Nat) : Int) < (N : Int) - 1 then (0, 0, true) else (((lst s (att s (min (lin s p + (N - 1)) (lns s - 1))) : Nat) : Int), if (((att s (min (lin s p + (N - 1)) (lns s - 1)) : Nat) : Int) == ((fin s (att s (min (lin s p + (N - 1)) (lns s - 1))) : Nat) : Int)) = true then 0 else 1, false)) := by
  rw [Hid]; unfold wayEol
  by_cases h : (lns s : Int) ≤ (lin s p : Int) + N - 1
  ·rw [if_pos h, if_pos qo]
  ·have hx : ¬ ((min (N - 1) (lns s - 1 - lin s p) : Nat) : Int) < (N : Int) - 1 := by omega
   rw [if_neg h]
   simp only [hx, if_false]
   rw [show min (lin s p + (N - 1)) (lns s - 1) = lin s p + N - 1 by omega, emp_lst qo]
 have HM : Hid (((lst s (att s (min (lin s p + (N - 1)) (lns s - 1))) : Nat) : Int) = max ((att s (min (lin s p + (N - 1)) (lns s - 1)) : Nat) : Int) (((fin s (att s (min (lin s p + (N - 1)) (lns s - 1))) : Nat) : Int) - 1)) := by
  rw [Hid, lst_max, beg_att hR]
 rw [HM.out] at HZ
 clear HM
 generalize wayEol s p N = W at *
 generalize min (lin s p + (N - 1)) (lns s - 1) = R at *
 generalize min (N - 1) (lns s - 1 - lin s p) = G at *
 generalize fin s (att s R) = RF at *
 generalize att s R = RA at *
 generalize fin s (att s (lin s p)) = LF at *
 generalize att s (lin s p) = LA at *
 clear hR
 have HE : qH 185 #[.agg #[.int .i64 (RA), .int .i64 (RF)]] (.bool ((RA : Int) == (RF : Int))) := fun ww => tIsEmpty_any _ _ ww
 have HT : qH 202 #[.agg #[.int .i64 (RA), .int .i64 (RF)]] (.int .i64 (max (RA : Int) ((RF : Int) - 1))) := fun ww => tLast_any _ _ ww qo
 generalize HM2 : max (RA : Int) ((RF : Int) - 1) = M at *
 by_cases hG : (G : Int) < (N : Int) - 1
 ·rw [if_pos hG] at HZ
  rw [HZ.out, wayX_t, wayK_t, wayZ_t]
  clear HZ
  go_enter func244, ntmps244
  go_wp2_with fail
  refine (HN.out _).mono ?_
  rintro e w1 ⟨rfl, h1⟩
  obtain ⟨hc1, hf1, hz1⟩ := qb h1
  try simp at hz1
  have hb1_0 := fun o => hc1 (w.heap.size) o qO
  have fb1_0 := fun o => hf1 (w.heap.size) o qO
  have ⟨hg1_0, hh1_0⟩ := qL w.heap.size w1.heap.size
  have hb1_1 := fun o => hc1 (w.heap.size + 1) o qO
  have fb1_1 := fun o => hf1 (w.heap.size + 1) o qO
  have ⟨hg1_1, hh1_1⟩ := qL (w.heap.size + 1) w1.heap.size
  have s0 : w1.cell? ⟨w.heap.size, 0, none⟩ = some (.string s) := by rw [hb1_0]; simp
  have s1 : w1.cell? ⟨w.heap.size, 1, none⟩ = some (.int .i64 p) := by rw [hb1_0]; simp
  have s2 : w1.cell? ⟨w.heap.size, 2, none⟩ = some (.int .i64 n) := by rw [hb1_0]; simp
  have s3 : w1.cell? ⟨w.heap.size, 3, none⟩ = some (.bool v) := by rw [hb1_0]; simp
  have s4 : w1.cell? ⟨w.heap.size, 4, none⟩ = some (.bool c) := by rw [hb1_0]; simp
  go_wp2_with fail
  go_region_held3 (fun ww => ww.cell? ⟨w.heap.size, 0, none⟩ = some (.string s) ∧ ww.cell? ⟨w.heap.size, 1, none⟩ = some (.int .i64 p) ∧ ww.cell? ⟨w.heap.size, 2, none⟩ = some (.int .i64 n) ∧ ww.cell? ⟨w.heap.size, 3, none⟩ = some (.bool v) ∧ ww.cell? ⟨w.heap.size, 4, none⟩ = some (.bool c)) (exact qK) (first | (go_at_call 239; refine (HL.out _).mono ?_; rintro r2 w2 ⟨rfl, h2⟩; obtain ⟨hc2, hf2, hz2⟩ := qb h2; (try simp at hz2); (try have ⟨hl2_0, hk2_0⟩ := qL w.heap.size w2.heap.size); have hb2_0 := fun o => hc2 (w.heap.size + 1) o qO; have fb2_0 := fun o => hf2 (w.heap.size + 1) o qO; (try have ⟨hg2_0, hh2_0⟩ := qL (w.heap.size + 1) w2.heap.size); (try have ⟨hg2_1, hh2_1⟩ := qL w1.heap.size w2.heap.size); (try have ⟨hg2_2, hh2_2⟩ := qL w2.heap.size w2.heap.size)) | (go_at_call 180; refine (HD.out _).mono ?_; rintro r3 w3 ⟨rfl, h3⟩; obtain ⟨hc3, hf3, hz3⟩ := qb h3; (try simp at hz3); (try have ⟨hl3_0, hk3_0⟩ := qL w.heap.size w3.heap.size); have hb3_0 := fun o => hc3 (w.heap.size + 1) o qO; have fb3_0 := fun o => hf3 (w.heap.size + 1) o qO; (try have ⟨hg3_0, hh3_0⟩ := qL (w.heap.size + 1) w3.heap.size); (try have ⟨hg3_1, hh3_1⟩ := qL w1.heap.size w3.heap.size); (try have ⟨hg3_2, hh3_2⟩ := qL w2.heap.size w3.heap.size)))
  go_wp2
  all_goals
   first
    | (exact qV (.tuple #[.agg #[.int .i64 0, .int .i64 0], .bool false]) (by simp [results, results244, go_sem, hb1_1, hb2_0, hb3_0, hg1_1, hg2_0, hg3_0]) rfl)
 ·rw [if_neg hG] at HZ
  rw [HZ.out, wayX_f, wayK_f, wayZ_f]
  clear HZ
  have hbe : ((G : Int) < (N : Int) - 1) = False := by simp; omega
  cases hE : ((RA : Int) == (RF : Int)) with
  | true =>
   rw [hE] at HE
   have hM : M = RA := by rw [← HM2]; simp at hE; omega
   rw [if_pos rfl, hM]
   clear HT
   go_enter func244, ntmps244
   go_wp2_with fail
   refine (HN.out _).mono ?_
   rintro e w1 ⟨rfl, h1⟩
   obtain ⟨hc1, hf1, hz1⟩ := qb h1
   try simp at hz1
   have hb1_0 := fun o => hc1 (w.heap.size) o qO
   have fb1_0 := fun o => hf1 (w.heap.size) o qO
   have ⟨hg1_0, hh1_0⟩ := qL w.heap.size w1.heap.size
   have hb1_1 := fun o => hc1 (w.heap.size + 1) o qO
   have fb1_1 := fun o => hf1 (w.heap.size + 1) o qO
   have ⟨hg1_1, hh1_1⟩ := qL (w.heap.size + 1) w1.heap.size
   have s0 : w1.cell? ⟨w.heap.size, 0, none⟩ = some (.string s) := by rw [hb1_0]; simp
   have s1 : w1.cell? ⟨w.heap.size, 1, none⟩ = some (.int .i64 p) := by rw [hb1_0]; simp
   have s2 : w1.cell? ⟨w.heap.size, 2, none⟩ = some (.int .i64 n) := by rw [hb1_0]; simp
   have s3 : w1.cell? ⟨w.heap.size, 3, none⟩ = some (.bool v) := by rw [hb1_0]; simp
   have s4 : w1.cell? ⟨w.heap.size, 4, none⟩ = some (.bool c) := by rw [hb1_0]; simp
   go_wp2_with fail
   go_region_held3 (fun ww => ww.cell? ⟨w.heap.size, 0, none⟩ = some (.string s) ∧ ww.cell? ⟨w.heap.size, 1, none⟩ = some (.int .i64 p) ∧ ww.cell? ⟨w.heap.size, 2, none⟩ = some (.int .i64 n) ∧ ww.cell? ⟨w.heap.size, 3, none⟩ = some (.bool v) ∧ ww.cell? ⟨w.heap.size, 4, none⟩ = some (.bool c)) (exact qK) (first | (go_at_call 239; refine (HL.out _).mono ?_; rintro r2 w2 ⟨rfl, h2⟩; obtain ⟨hc2, hf2, hz2⟩ := qb h2; (try simp at hz2); (try have ⟨hl2_0, hk2_0⟩ := qL w.heap.size w2.heap.size); have hb2_0 := fun o => hc2 (w.heap.size + 1) o qO; have fb2_0 := fun o => hf2 (w.heap.size + 1) o qO; (try have ⟨hg2_0, hh2_0⟩ := qL (w.heap.size + 1) w2.heap.size); (try have ⟨hg2_1, hh2_1⟩ := qL w1.heap.size w2.heap.size); (try have ⟨hg2_2, hh2_2⟩ := qL w2.heap.size w2.heap.size)) | (go_at_call 180; refine (HD.out _).mono ?_; rintro r3 w3 ⟨rfl, h3⟩; obtain ⟨hc3, hf3, hz3⟩ := qb h3; (try simp at hz3); (try have ⟨hl3_0, hk3_0⟩ := qL w.heap.size w3.heap.size); have hb3_0 := fun o => hc3 (w.heap.size + 1) o qO; have fb3_0 := fun o => hf3 (w.heap.size + 1) o qO; (try have ⟨hg3_0, hh3_0⟩ := qL (w.heap.size + 1) w3.heap.size); (try have ⟨hg3_1, hh3_1⟩ := qL w1.heap.size w3.heap.size); (try have ⟨hg3_2, hh3_2⟩ := qL w2.heap.size w3.heap.size)))
   all_goals
    go_wp2_with fail
    refine (HE.out _).mono ?_
    rintro e w4 ⟨rfl, h4⟩
    obtain ⟨hc4, hf4, hz4⟩ := qb h4
    try simp at hz4
    have hb4_0 := fun o => hc4 (w.heap.size + 1) o qO
    have fb4_0 := fun o => hf4 (w.heap.size + 1) o qO
    have ⟨hg4_0, hh4_0⟩ := qL (w.heap.size + 1) w4.heap.size
    (try have q1 : w1.heap.size < w4.heap.size := qo)
    (try have q2 : w2.heap.size < w4.heap.size := qo)
    (try have q3 : w3.heap.size < w4.heap.size := qo)
    go_wp2
   all_goals
    first
     | (exact qV (.tuple #[.agg #[.int .i64 RA, .int .i64 0], .bool true]) (by simp [results, results244, go_sem, hb1_1, hb2_0, hb3_0, hb4_0, hg1_1, hg2_0, hg3_0, hg4_0]) rfl)
  | false =>
   rw [hE] at HE
   rw [if_neg qi]
   go_enter func244, ntmps244
   go_wp2_with fail
   refine (HN.out _).mono ?_
   rintro e w1 ⟨rfl, h1⟩
   obtain ⟨hc1, hf1, hz1⟩ := qb h1
   try simp at hz1
   have hb1_0 := fun o => hc1 (w.heap.size) o qO
   have fb1_0 := fun o => hf1 (w.heap.size) o qO
   have ⟨hg1_0, hh1_0⟩ := qL w.heap.size w1.heap.size
   have hb1_1 := fun o => hc1 (w.heap.size + 1) o qO
   have fb1_1 := fun o => hf1 (w.heap.size + 1) o qO
   have ⟨hg1_1, hh1_1⟩ := qL (w.heap.size + 1) w1.heap.size
   have s0 : w1.cell? ⟨w.heap.size, 0, none⟩ = some (.string s) := by rw [hb1_0]; simp
   have s1 : w1.cell? ⟨w.heap.size, 1, none⟩ = some (.int .i64 p) := by rw [hb1_0]; simp
   have s2 : w1.cell? ⟨w.heap.size, 2, none⟩ = some (.int .i64 n) := by rw [hb1_0]; simp
   have s3 : w1.cell? ⟨w.heap.size, 3, none⟩ = some (.bool v) := by rw [hb1_0]; simp
   have s4 : w1.cell? ⟨w.heap.size, 4, none⟩ = some (.bool c) := by rw [hb1_0]; simp
   go_wp2_with fail
   go_region_held3 (fun ww => ww.cell? ⟨w.heap.size, 0, none⟩ = some (.string s) ∧ ww.cell? ⟨w.heap.size, 1, none⟩ = some (.int .i64 p) ∧ ww.cell? ⟨w.heap.size, 2, none⟩ = some (.int .i64 n) ∧ ww.cell? ⟨w.heap.size, 3, none⟩ = some (.bool v) ∧ ww.cell? ⟨w.heap.size, 4, none⟩ = some (.bool c)) (exact qK) (first | (go_at_call 239; refine (HL.out _).mono ?_; rintro r2 w2 ⟨rfl, h2⟩; obtain ⟨hc2, hf2, hz2⟩ := qb h2; (try simp at hz2); (try have ⟨hl2_0, hk2_0⟩ := qL w.heap.size w2.heap.size); have hb2_0 := fun o => hc2 (w.heap.size + 1) o qO; have fb2_0 := fun o => hf2 (w.heap.size + 1) o qO; (try have ⟨hg2_0, hh2_0⟩ := qL (w.heap.size + 1) w2.heap.size); (try have ⟨hg2_1, hh2_1⟩ := qL w1.heap.size w2.heap.size); (try have ⟨hg2_2, hh2_2⟩ := qL w2.heap.size w2.heap.size)) | (go_at_call 180; refine (HD.out _).mono ?_; rintro r3 w3 ⟨rfl, h3⟩; obtain ⟨hc3, hf3, hz3⟩ := qb h3; (try simp at hz3); (try have ⟨hl3_0, hk3_0⟩ := qL w.heap.size w3.heap.size); have hb3_0 := fun o => hc3 (w.heap.size + 1) o qO; have fb3_0 := fun o => hf3 (w.heap.size + 1) o qO; (try have ⟨hg3_0, hh3_0⟩ := qL (w.heap.size + 1) w3.heap.size); (try have ⟨hg3_1, hh3_1⟩ := qL w1.heap.size w3.heap.size); (try have ⟨hg3_2, hh3_2⟩ := qL w2.heap.size w3.heap.size)))
   all_goals
    go_wp2_with fail
    refine (HE.out _).mono ?_
    rintro e w4 ⟨rfl, h4⟩
    obtain ⟨hc4, hf4, hz4⟩ := qb h4
    try simp at hz4
    have hb4_0 := fun o => hc4 (w.heap.size + 1) o qO
    have fb4_0 := fun o => hf4 (w.heap.size + 1) o qO
    have ⟨hg4_0, hh4_0⟩ := qL (w.heap.size + 1) w4.heap.size
    (try have q1 : w1.heap.size < w4.heap.size := qo)
    (try have q2 : w2.heap.size < w4.heap.size := qo)
    (try have q3 : w3.heap.size < w4.heap.size := qo)
    go_wp2_with fail
    refine (HT.out _).mono ?_
    rintro e w5 ⟨rfl, h5⟩
    obtain ⟨hc5, hf5, hz5⟩ := qb h5
    try simp at hz5
    have hb5_0 := fun o => hc5 (w.heap.size + 1) o qO
    have fb5_0 := fun o => hf5 (w.heap.size + 1) o qO
    have ⟨hg5_0, hh5_0⟩ := qL (w.heap.size + 1) w5.heap.size
    go_wp2
   all_goals
    first
     | (exact qV (.tuple #[.agg #[.int .i64 M, .int .i64 1], .bool true]) (by simp [results, results244, go_sem, hb1_1, hb2_0, hb3_0, hb4_0, hb5_0, hg1_1, hg2_0, hg3_0, hg4_0, hg5_0]) rfl)
theorem sInLine_eol (s : ByteArray) (p n : Nat) (v c : Bool) (w : World) (hs : s.size ≤ 1000) (hp : p ≤ s.size) (hn : n ≤ 99) :
  qC 205 #[.agg #[.string s, .int .i64 (p), .int .i64 (n), .bool v, .bool c], .int .u8 36] w (.tuple #[.agg #[.int .i64 (wayX (wayEol s p (max n 1))), .int .i64 (wayK (wayEol s p (max n 1)))], .bool (wayZ (wayEol s p (max n 1)))]) := by
 have HL : qH 239 #[.agg #[.string s, .int .i64 (p), .int .i64 (n), .bool v, .bool c]] (.agg #[.int .i64 (beg s p), .int .i64 (fin s p)]) := fun ww => sLine_any s p n v c p ww hs rfl hp
 have HE : qH 244 #[.agg #[.string s, .int .i64 (p), .int .i64 (n), .bool v, .bool c]] (.tuple #[.agg #[.int .i64 (wayX (wayEol s p (max n 1))), .int .i64 (wayK (wayEol s p (max n 1)))], .bool (wayZ (wayEol s p (max n 1)))]) := fun ww => sLineEnd_any s p n v c ww hs hp hn
 generalize wayEol s p (max n 1) = W at *
 generalize beg s p = B at *
 generalize fin s p = F at *
 go_enter func205, ntmps205
 go_wp2_with fail
 refine (HL.out _).mono ?_
 rintro e w1 ⟨rfl, h1⟩
 obtain ⟨hc1, hf1, hz1⟩ := qb h1
 try simp at hz1
 have hb1_0 := fun o => hc1 (w.heap.size) o qO
 have fb1_0 := fun o => hf1 (w.heap.size) o qO
 have ⟨hg1_0, hh1_0⟩ := qL w.heap.size w1.heap.size
 have hb1_1 := fun o => hc1 (w.heap.size + 1) o qO
 have fb1_1 := fun o => hf1 (w.heap.size + 1) o qO
 have ⟨hg1_1, hh1_1⟩ := qL (w.heap.size + 1) w1.heap.size
 go_wp2_with fail
 refine (HE.out _).mono ?_
 rintro e w2 ⟨rfl, h2⟩
 obtain ⟨hc2, hf2, hz2⟩ := qb h2
 try simp at hz2
 have hb2_0 := fun o => hc2 (w.heap.size) o qO
 have fb2_0 := fun o => hf2 (w.heap.size) o qO
 have ⟨hg2_0, hh2_0⟩ := qL w.heap.size w2.heap.size
 have hb2_1 := fun o => hc2 (w.heap.size + 1) o qO
 have fb2_1 := fun o => hf2 (w.heap.size + 1) o qO
 have ⟨hg2_1, hh2_1⟩ := qL (w.heap.size + 1) w2.heap.size
 go_wp2
 all_goals
  first
   | (exact qV (.tuple #[.agg #[.int .i64 (wayX (W)), .int .i64 (wayK (W))], .bool (wayZ (W))]) (by simp [results, results205, go_sem, hb1_1, hg1_1, hb2_1, hg2_1]) rfl)
